package store_test

import (
	"fmt"
	"slices"
	"strings"
	"testing"

	"careen/api"
	"careen/disk"
	"careen/page"
	"careen/slab"
	"careen/store"
)

// P7.5

// state is a disk behind a crash, and what its pages should be.
type state struct {
	d     *disk.Disk
	pages []api.Page
	other api.Page // what the page that was being written may be, too
	one   int      // its number; -1: none
}

// key tells states from each other.
func (x state) key(t *testing.T) string {
	t.Helper()
	return fmt.Sprint(sectors(t, x.d), x.pages, x.other, x.one)
}

// settled holds the pages of a store against what they should be, and answers what they are.
func (x state) settled(t *testing.T, what string, s *store.Store) []api.Page {
	t.Helper()
	pages := slices.Clone(x.pages)
	for i, p := range pages {
		got, e := s.Read(i)
		if e != api.OK || got != p && (i != x.one || got != x.other) {
			t.Fatalf("%s: the page %d is At %d, %q, %d", what, i, got.At, got.Data, e)
		}
		pages[i] = got
	}
	return pages
}

// behindOpens is each state that opening a store leaves, with the power going amid it as often as one likes, and each crash then; all that are at rest are answered.
func behindOpens(t *testing.T, x state) []state {
	t.Helper()
	var rest []state
	seen := map[string]bool{x.key(t): true}
	for todo := []state{x}; len(todo) > 0; todo = todo[1:] {
		now := todo[0]
		for fuse := range 4 {
			d := now.d.Copy()
			d.Arm(fuse)
			s, e := store.Open(d, 1, len(now.pages))
			if e == api.OK {
				d.Arm(-1)
				pages := now.settled(t, "opened", s)
				rest = append(rest, state{d, pages, api.Page{}, -1})
				break // a greater fuse does the same
			}
			want(t, "Open amid which the power goes", e, api.ErrDead)
			for _, picks := range crashes(d.Waiting()) {
				c := now
				c.d = d.Copy()
				c.d.Crash(picks)
				if k := c.key(t); !seen[k] {
					seen[k] = true
					todo = append(todo, c)
				}
			}
		}
	}
	if len(rest) == 0 {
		t.Fatal("Open never ends")
	}
	return rest
}

// behindWrite is each state that a write of a page leaves, with the power going amid it, and each crash then.
func behindWrite(t *testing.T, x state, i int, p api.Page) []state {
	t.Helper()
	var list []state
	for fuse := range 9 {
		d := x.d.Copy()
		s := opened(t, d, 1, len(x.pages))
		d.Arm(fuse)
		if e := s.Write(i, p); (e == api.OK) != (fuse == 8) || e != api.OK && e != api.ErrDead {
			t.Fatalf("Write with the fuse %d: %d", fuse, e)
		}
		for _, picks := range crashes(d.Waiting()) {
			now := state{d.Copy(), slices.Clone(x.pages), p, i}
			now.d.Crash(picks)
			if fuse >= 5 { // the head is safe, so it is done, sooner or later
				now.pages[i] = p
			}
			if fuse != 4 { // else the head waits, and the crash says whether it is there
				now.one = -1
			}
			list = append(list, now)
		}
	}
	return list
}

// TestEachCrashOfEachWrite goes through three writes in a row, each with each crash, and Open with each crash between.
func TestEachCrashOfEachWrite(t *testing.T) {
	const pages = 2
	d := made(t, 1+3+2*pages)
	now := []state{{d, slices.Repeat([]api.Page{page.Empty()}, pages), api.Page{}, -1}}
	for k := range 3 {
		next := map[string]state{}
		for _, x := range now {
			for i := range pages {
				for _, y := range behindWrite(t, x, i, sample(10*k+i)) {
					for _, z := range behindOpens(t, y) {
						next[z.key(t)] = z
					}
				}
			}
		}
		now = nil
		for _, x := range next {
			now = append(now, x)
		}
	}
	if len(now) < 10 {
		t.Fatalf("only %d states at the end", len(now))
	}
}

// TestACrashOfAPageWithOthers crashes a write of each page of each store.
func TestACrashOfAPageWithOthers(t *testing.T) {
	for n := 1; n <= 8; n++ {
		d := made(t, 1+3+2*n)
		s, e := store.New(d, 1, n)
		want(t, "New", e, api.OK)
		var pages []api.Page
		for i := range n {
			pages = append(pages, sample(i))
			want(t, "Write", s.Write(i, pages[i]), api.OK)
		}
		for i := range n {
			for _, y := range behindWrite(t, state{d, pages, api.Page{}, -1}, i, sample(20+i)) {
				behindOpens(t, y)
			}
		}
	}
}

// TestBothPagesMayBeThere holds the other half of it: where the head waited, one crash keeps the write, and another one loses it.
func TestBothPagesMayBeThere(t *testing.T) {
	for pick, p := range []api.Page{sample(1), sample(2), sample(1)} {
		d, s := anew(t, 0, 1)
		want(t, "Write", s.Write(0, sample(1)), api.OK)
		d.Arm(4)
		want(t, "Write", s.Write(0, sample(2)), api.ErrDead)
		d.Crash([]uint8{uint8(pick)})
		wantPage(t, fmt.Sprintf("a head by the pick %d", pick), opened(t, d, 0, 1), 0, p)
	}
}

// Without Open a page may be torn: it is Open that puts it right.
func TestHomesMayBeTornUntilOpen(t *testing.T) {
	d, s := anew(t, 0, 1)
	want(t, "Write", s.Write(0, sample(1)), api.OK)
	d.Arm(6)
	want(t, "Write", s.Write(0, sample(2)), api.ErrDead)
	d.Crash([]uint8{2})
	wantNoPage(t, "half of it", s, 0, api.ErrTorn)
	wantPage(t, "opened", opened(t, d, 0, 1), 0, sample(2))
}

// All of it together.

// dice is a row of numbers that look like any ones, the same at each run.
type dice uint64

func (x *dice) below(n int) int {
	*x ^= *x << 13
	*x ^= *x >> 7
	*x ^= *x << 17
	return int(uint64(*x) >> 33 % uint64(n))
}

func (x *dice) picks() []uint8 {
	list := make([]uint8, x.below(4))
	for j := range list {
		list[j] = uint8(x.below(256))
	}
	return list
}

// plain is a store as the document tells it, on a disk of its own.
type plain struct {
	d                   *disk.Disk
	base, pages, ticket int
}

// has answers the slab of that Index in a sector of the store.
func (p *plain) has(at, index int) (api.Slab, bool) {
	text, _ := p.d.Read(p.base + at)
	x, e := slab.Unpack(text)
	return x, e == api.OK && x.Index == uint32(index)
}

func (p *plain) open(t *testing.T) api.Errno {
	t.Helper()
	if p.d.Dead() {
		return api.ErrDead
	}
	a, ok0 := p.has(0, 0)
	b, ok1 := p.has(1, 1)
	head, ok2 := p.has(2, 2)
	if ok0 && ok1 && ok2 && a.Epoch == head.Epoch && b.Epoch == head.Epoch && len(head.Body) == 1 && int(head.Body[0]) < p.pages {
		if e := do(p.d, homes(t, p.base, int(head.Body[0]), head.Epoch, a.Body, b.Body)); e != api.OK {
			return e
		}
	}
	p.ticket = 1
	for at := range 3 + 2*p.pages {
		text, _ := p.d.Read(p.base + at)
		if x, e := slab.Unpack(text); e == api.OK {
			p.ticket = max(p.ticket, int(x.Epoch)+1)
		}
	}
	return api.OK
}

func (p *plain) write(t *testing.T, i int, x api.Page) api.Errno {
	t.Helper()
	if i < 0 || i >= p.pages {
		return api.ErrRange
	}
	if x.At < 0 || x.At > 1<<31-1 || len(x.Data) != 220 {
		return api.ErrForm
	}
	p.ticket++
	return do(p.d, write(t, p.base, i, p.ticket-1, x))
}

func (p *plain) read(i int) (api.Page, api.Errno) {
	if i < 0 || i >= p.pages {
		return api.Page{}, api.ErrRange
	}
	first, e := p.d.Read(p.base + 3 + 2*i)
	second, _ := p.d.Read(p.base + 4 + 2*i)
	if e != api.OK {
		return api.Page{}, e
	}
	if noughts := strings.Repeat("\x00", 256); first+second == noughts {
		return api.Page{Data: noughts[:220]}, api.OK
	}
	a, ok := p.has(3+2*i, 2*i)
	b, alike := p.has(4+2*i, 2*i+1)
	text := a.Body + b.Body
	if !ok || !alike || a.Epoch != b.Epoch || len(text) != 224 || text[0] >= 0x80 {
		return api.Page{}, api.ErrTorn
	}
	at := int(text[0])<<24 | int(text[1])<<16 | int(text[2])<<8 | int(text[3])
	return api.Page{At: at, Data: text[4:]}, api.OK
}

func (p *plain) lose(i int) api.Errno {
	if i < 0 || i >= p.pages {
		return api.ErrRange
	}
	p.d.Lose(p.base + 3 + 2*i)
	return p.d.Lose(p.base + 4 + 2*i)
}

// pair is a store and its plain one.
type pair struct {
	d *disk.Disk
	s *store.Store
	p *plain
}

// both does the same to both disks.
func (b *pair) both(f func(d *disk.Disk)) {
	f(b.d)
	f(b.p.d)
}

// open opens both again, as often as it needs: the power may go amid it.
func (b *pair) open(t *testing.T, x *dice) {
	t.Helper()
	fuse, picks := x.below(8)-3, x.picks()
	b.both(func(d *disk.Disk) { d.Arm(fuse) })
	s, e := store.Open(b.d, b.p.base, b.p.pages)
	want(t, "Open", e, b.p.open(t))
	if e == api.OK {
		b.s = s
		return
	}
	b.both(func(d *disk.Disk) { d.Crash(picks) })
	b.open(t, x)
}

// spoil lays any slab in any sector, or a piece of one of the others.
func (b *pair) spoil(t *testing.T, x *dice) {
	t.Helper()
	if b.d.Dead() {
		return
	}
	at := x.below(3 + 2*b.p.pages)
	index := at
	if at > 2 {
		index = at - 3
	}
	bodies := []string{"", string([]byte{byte(x.below(b.p.pages + 1))}), "ab", bytesOf(sample(x.below(9)))[:112], bytesOf(sample(x.below(9)))[112:]}
	text := packed(t, uint32(b.p.ticket-x.below(min(b.p.ticket, 4)+1)), index+x.below(5)/4, bodies[x.below(len(bodies))])
	if x.below(6) == 0 {
		text, _ = b.d.Read(b.p.base + x.below(3+2*b.p.pages))
	}
	b.both(func(d *disk.Disk) { d.Write(b.p.base+at, text) })
}

// step does one thing to a store and to its plain one.
func (b *pair) step(t *testing.T, x *dice) string {
	t.Helper()
	i := x.below(b.p.pages+2) - 1
	if x.below(3) > 0 {
		i = min(max(i, 0), b.p.pages-1)
	}
	switch k := x.below(30); {
	case k < 14:
		p := sample(x.below(1000))
		if x.below(20) == 0 {
			p = wrongPages()[x.below(len(wrongPages()))]
		}
		want(t, fmt.Sprintf("Write(%d)", i), b.s.Write(i, p), b.p.write(t, i, p))
		return "Write"
	case k < 17:
		want(t, fmt.Sprintf("Lose(%d)", i), b.s.Lose(i), b.p.lose(i))
		return "Lose"
	case k < 20:
		n := x.below(14) - 2
		b.both(func(d *disk.Disk) { d.Arm(n) })
		return "Arm"
	case k < 22:
		b.spoil(t, x)
		return "a sector that is spoiled"
	case k < 25:
		picks := x.picks()
		b.both(func(d *disk.Disk) { d.Crash(picks) })
		return "Crash"
	}
	b.open(t, x)
	return "Open"
}

func TestAStoreIsAsAPlainOne(t *testing.T) {
	for seed := range 120 {
		x := dice(seed*7919 + 1)
		pages, base := 1+x.below(8), x.below(4)
		d, s := anew(t, base, pages)
		b := &pair{d, s, &plain{d.Copy(), base, pages, 1}}
		for j := range 60 {
			what := fmt.Sprintf("the seed %d, the step %d, %s", seed, j, b.step(t, &x))
			wantSameDisk(t, what, b.d, b.p.d)
			wantTicket(t, what, b.s, b.p.ticket)
			for i := -1; i <= pages; i++ {
				got, e := b.s.Read(i)
				if p, f := b.p.read(i); got != p || e != f {
					t.Fatalf("%s: Read(%d): At %d, %q, %d, not At %d, %q, %d", what, i, got.At, got.Data, e, p.At, p.Data, f)
				}
			}
		}
	}
}

// TestLongHistoriesOfCrashes holds the pages through many writes, of which each third one is crashed.
func TestLongHistoriesOfCrashes(t *testing.T) {
	for seed := range 30 {
		x := dice(seed*104729 + 1)
		n := 1 + x.below(8)
		d := made(t, 1+3+2*n)
		s, e := store.New(d, 1, n)
		want(t, "New", e, api.OK)
		now := state{d, slices.Repeat([]api.Page{page.Empty()}, n), api.Page{}, -1}
		for j := range 90 {
			i, p := x.below(n), sample(j)
			if x.below(3) == 0 {
				d.Arm(x.below(8))
			}
			if e := s.Write(i, p); e == api.OK {
				now.pages[i] = p
				continue
			}
			for {
				d.Crash(x.picks())
				d.Arm(x.below(5))
				if s, e = store.Open(d, 1, n); e == api.OK {
					break
				}
			}
			d.Arm(-1)
			now.other, now.one = p, i
			now.pages = now.settled(t, fmt.Sprintf("the seed %d, the write %d", seed, j), s)
		}
	}
}
