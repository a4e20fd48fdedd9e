package store_test

import (
	"fmt"
	"math"
	"slices"
	"strings"
	"testing"

	"careen/api"
	"careen/disk"
	"careen/page"
	"careen/slab"
	"careen/store"
)

func made(t *testing.T, n int) *disk.Disk {
	t.Helper()
	d, e := disk.New(n)
	if e != api.OK {
		t.Fatalf("disk.New(%d): %d", n, e)
	}
	return d
}

// anew is a disk that ends where the store ends, with noughts, and a store on it.
func anew(t *testing.T, base, pages int) (*disk.Disk, *store.Store) {
	t.Helper()
	d := made(t, base+3+2*pages)
	s, e := store.New(d, base, pages)
	if e != api.OK || s == nil {
		t.Fatalf("New(%d, %d): a store: %v, %d", base, pages, s != nil, e)
	}
	return d, s
}

func opened(t *testing.T, d *disk.Disk, base, pages int) *store.Store {
	t.Helper()
	s, e := store.Open(d, base, pages)
	if e != api.OK || s == nil {
		t.Fatalf("Open(%d, %d): a store: %v, %d", base, pages, s != nil, e)
	}
	return s
}

// without is a disk like another one, with its power gone.
func without(d *disk.Disk) *disk.Disk {
	c := d.Copy()
	c.Arm(0)
	c.Sync()
	return c
}

// sample is a page of which no two bytes of one place in both halves are the same, nor those of two samples.
func sample(k int) api.Page {
	b := make([]byte, 220)
	for j := range b {
		b[j] = byte(k*29 + j*7 + j/112 + 1)
	}
	return api.Page{At: k * 1000003 % (1 << 31), Data: string(b)}
}

// bytesOf is a page's 224 bytes, made without the package's own code.
func bytesOf(p api.Page) string {
	return string([]byte{byte(p.At >> 24), byte(p.At >> 16), byte(p.At >> 8), byte(p.At)}) + p.Data
}

func packed(t *testing.T, epoch uint32, index int, body string) string {
	t.Helper()
	s, e := slab.Pack(api.Slab{Epoch: epoch, Index: uint32(index), Body: body})
	if e != api.OK {
		t.Fatalf("slab.Pack: %d", e)
	}
	return s
}

// lay lays a text in a sector, safely.
func lay(t *testing.T, d *disk.Disk, i int, s string) {
	t.Helper()
	if e, f := d.Write(i, s), d.Sync(); e != api.OK || f != api.OK {
		t.Fatalf("the sector %d isn't written: %d, %d", i, e, f)
	}
}

// part is a write of a sector; a sync, if it has no text.
type part struct {
	sector int
	text   string
}

// copies are the journal's first part of a write: its copies, and a sync.
func copies(t *testing.T, base int, epoch uint32, text string) []part {
	t.Helper()
	return []part{
		{base, packed(t, epoch, 0, text[:112])},
		{base + 1, packed(t, epoch, 1, text[112:])},
		{},
	}
}

// homes are the last part of a write: the homes, and a sync.
func homes(t *testing.T, base, i int, epoch uint32, first, second string) []part {
	t.Helper()
	return []part{
		{base + 3 + 2*i, packed(t, epoch, 2*i, first)},
		{base + 4 + 2*i, packed(t, epoch, 2*i+1, second)},
		{},
	}
}

// write is all of a write, as the chapter tells it.
func write(t *testing.T, base, i, ticket int, p api.Page) []part {
	t.Helper()
	text, epoch := bytesOf(p), uint32(ticket)
	head := []part{{base + 2, packed(t, epoch, 2, string([]byte{byte(i)}))}, {}}
	return slices.Concat(copies(t, base, epoch, text), head, homes(t, base, i, epoch, text[:112], text[112:]))
}

// do does parts on a disk, until one isn't borne.
func do(d *disk.Disk, parts []part) api.Errno {
	for _, x := range parts {
		e := api.OK
		if x.text == "" {
			e = d.Sync()
		} else {
			e = d.Write(x.sector, x.text)
		}
		if e != api.OK {
			return e
		}
	}
	return api.OK
}

// crashes is each choice of what a crash keeps of so many writes that wait.
func crashes(waiting int) [][]uint8 {
	list := [][]uint8{nil}
	for range waiting {
		var more [][]uint8
		for _, picks := range list {
			for pick := range uint8(3) {
				more = append(more, append(slices.Clone(picks), pick))
			}
		}
		list = more
	}
	return list
}

func sectors(t *testing.T, d *disk.Disk) []string {
	t.Helper()
	list := make([]string, d.Size())
	for i := range list {
		s, e := d.Read(i)
		if e != api.OK {
			t.Fatalf("disk.Read(%d): %d", i, e)
		}
		list[i] = s
	}
	return list
}

// wantSameDisk holds two disks against each other: what they are now, and what crashes make of them, which tells what waits in which order.
func wantSameDisk(t *testing.T, what string, d, other *disk.Disk) {
	t.Helper()
	if d.Dead() != other.Dead() || d.Waiting() != other.Waiting() {
		t.Fatalf("%s: dead %v, %d wait, not %v, %d", what, d.Dead(), d.Waiting(), other.Dead(), other.Waiting())
	}
	if !d.Dead() && !slices.Equal(sectors(t, d), sectors(t, other)) {
		t.Fatalf("%s: other sectors", what)
	}
	for _, picks := range [][]uint8{{0}, {1}, {2}, {0, 1}, {1, 0}, {2, 0, 1}} {
		a, b := d.Copy(), other.Copy()
		a.Crash(picks)
		b.Crash(picks)
		if !slices.Equal(sectors(t, a), sectors(t, b)) {
			t.Fatalf("%s: other sectors behind a crash by %v", what, picks)
		}
	}
}

func want(t *testing.T, what string, got, e api.Errno) {
	t.Helper()
	if got != e {
		t.Fatalf("%s: %d, not %d", what, got, e)
	}
}

func wantPage(t *testing.T, what string, s *store.Store, i int, p api.Page) {
	t.Helper()
	if got, e := s.Read(i); e != api.OK || got != p {
		t.Fatalf("%s: Read(%d): At %d, %q, %d, not At %d, %q", what, i, got.At, got.Data, e, p.At, p.Data)
	}
}

func wantNoPage(t *testing.T, what string, s *store.Store, i int, want api.Errno) {
	t.Helper()
	if p, e := s.Read(i); e != want || p != (api.Page{}) {
		t.Fatalf("%s: Read(%d): At %d, %q, %d, not %d", what, i, p.At, p.Data, e, want)
	}
}

func wantTicket(t *testing.T, what string, s *store.Store, ticket int) {
	t.Helper()
	if got := s.Ticket(); got != ticket {
		t.Fatalf("%s: Ticket %d, not %d", what, got, ticket)
	}
}

// wantOpenWrites opens what a disk has, with each fuse, and holds what it does against the parts that it should do.
func wantOpenWrites(t *testing.T, what string, d *disk.Disk, base, pages int, parts []part) {
	t.Helper()
	for fuse := -1; fuse <= len(parts); fuse++ {
		c, other := d.Copy(), d.Copy()
		c.Arm(fuse)
		other.Arm(fuse)
		s, e := store.Open(c, base, pages)
		if f := do(other, parts); e != f || (s != nil) != (f == api.OK) {
			t.Fatalf("%s: Open with the fuse %d: a store: %v, %d, not %d", what, fuse, s != nil, e, f)
		}
		wantSameDisk(t, fmt.Sprintf("%s: Open with the fuse %d", what, fuse), c, other)
		if fuse == len(parts) {
			want(t, what+": a sync behind Open", c.Sync(), api.ErrDead) // it used all of the fuse
		}
	}
}

// misfits are places and numbers of pages that a store on a disk of 20 hasn't.
func misfits() [][2]int {
	list := [][2]int{
		{-1, 1}, {-1, 8}, {-5, 1}, {-19, 8}, {math.MinInt, 1}, {math.MinInt, 8},
		{2, 8}, {4, 7}, {16, 1}, {17, 1}, {20, 1}, {21, 1}, {512, 1}, {1 << 32, 1}, {1 << 40, 8},
		{math.MaxInt, 1}, {math.MaxInt, 8}, {math.MaxInt - 4, 1}, {math.MaxInt - 5, 1}, {math.MaxInt - 18, 8},
	}
	for _, pages := range []int{0, -1, -2, -8, 9, 10, 256, 257, 1 << 32, 1<<32 + 1, 1 << 62, 1<<63 - 2, math.MinInt, math.MinInt + 1, math.MaxInt} {
		list = append(list, [2]int{0, pages}, [2]int{-1, pages}, [2]int{15, pages}, [2]int{math.MaxInt, pages}, [2]int{math.MinInt, pages})
	}
	return list
}

// The chapter's examples.

func TestExamples(t *testing.T) {
	if n := store.Sectors(2); n != 7 {
		t.Errorf("a store of two pages takes %d sectors, not 7", n)
	}
	for _, c := range []struct {
		fuse int
		pick uint8
		e    api.Errno
		p    api.Page
	}{
		{8, 0, api.OK, sample(2)},
		{7, 0, api.ErrDead, sample(2)},
		{5, 0, api.ErrDead, sample(2)},
		{3, 0, api.ErrDead, sample(1)},
	} {
		d, s := anew(t, 0, 2)
		want(t, "Write", s.Write(0, sample(1)), api.OK)
		d.Arm(c.fuse)
		want(t, "Write amid which the power goes", s.Write(0, sample(2)), c.e)
		d.Crash([]uint8{c.pick})
		wantPage(t, fmt.Sprintf("behind %d writes and syncs", c.fuse), opened(t, d, 0, 2), 0, c.p)
	}
}

// P7.1

func TestSectors(t *testing.T) {
	for pages, n := range map[int]int{
		0: 3, 1: 5, 2: 7, 3: 9, 7: 17, 8: 19, 9: 21, 100: 203, 1 << 30: 1<<31 + 3,
		-1: 0, -2: 0, -3: 0, -1 << 40: 0, math.MinInt: 0, math.MinInt + 1: 0,
	} {
		if got := store.Sectors(pages); got != n {
			t.Errorf("Sectors(%d): %d, not %d", pages, got, n)
		}
	}
}

func TestANewStore(t *testing.T) {
	for pages := 1; pages <= 8; pages++ {
		for _, base := range []int{0, 1, 7, 512 - 3 - 2*pages} {
			_, s := anew(t, base, pages) // the disk ends where the store ends
			wantTicket(t, "a new store", s, 1)
			if n := s.Pages(); n != pages {
				t.Fatalf("Pages: %d, not %d", n, pages)
			}
			for i := range pages {
				wantPage(t, "a new store", s, i, page.Empty())
			}
			wantNoPage(t, "a new store", s, pages, api.ErrRange)
			less := made(t, base+2+2*pages)
			if s, e := store.New(less, base, pages); s != nil || e != api.ErrArg {
				t.Fatalf("New(%d, %d) where a sector lacks: a store: %v, %d", base, pages, s != nil, e)
			}
		}
	}
	if s, e := store.New(made(t, 512), 100, 3); s == nil || e != api.OK || s.Pages() != 3 {
		t.Fatalf("New on a greater disk: %d", e)
	}
}

func TestNewTouchesNoDisk(t *testing.T) {
	d, s := anew(t, 1, 2)
	want(t, "Write", s.Write(1, sample(1)), api.OK)
	want(t, "a write that waits", d.Write(2, packed(t, 3, 7, "x")), api.OK)
	was := d.Copy()
	d.Arm(0)
	again, e := store.New(d, 1, 2)
	want(t, "New", e, api.OK)
	wantTicket(t, "New over a store", again, 1)
	wantSameDisk(t, "New over a store", d, was)
	wantPage(t, "New over a store", again, 1, sample(1))
	want(t, "Sync with a fuse of 0", d.Sync(), api.ErrDead)
	if s, e := store.New(d, 1, 2); s == nil || e != api.OK {
		t.Fatalf("New without power: %d", e)
	}
}

func TestNewAndOpenRefuseWhatMayNotBe(t *testing.T) {
	d := made(t, 20)
	for _, c := range []struct {
		d *disk.Disk
		e api.Errno
	}{{d, api.ErrArg}, {without(d), api.ErrArg}, {nil, api.ErrNil}} {
		for _, x := range misfits() {
			if s, e := store.New(c.d, x[0], x[1]); s != nil || e != c.e {
				t.Errorf("New(%d, %d): a store: %v, %d, not %d", x[0], x[1], s != nil, e, c.e)
			}
			if s, e := store.Open(c.d, x[0], x[1]); s != nil || e != c.e {
				t.Errorf("Open(%d, %d): a store: %v, %d, not %d", x[0], x[1], s != nil, e, c.e)
			}
		}
	}
	for _, open := range []func(*disk.Disk, int, int) (*store.Store, api.Errno){store.New, store.Open} {
		if s, e := open(nil, 0, 1); s != nil || e != api.ErrNil {
			t.Errorf("no disk: a store: %v, %d", s != nil, e)
		}
		if s, e := open(&disk.Disk{}, 0, 1); s != nil || e != api.ErrArg {
			t.Errorf("a disk without sectors: a store: %v, %d", s != nil, e)
		}
		for _, x := range [][2]int{{0, 1}, {0, 8}, {1, 8}, {15, 1}} {
			if s, e := open(d, x[0], x[1]); s == nil || e != api.OK {
				t.Errorf("%d pages at %d: %d", x[1], x[0], e)
			}
		}
	}
	great := made(t, 512) // it has the sectors of more pages than a store may have
	for _, pages := range []int{0, 9, 10, 100, 254, 255} {
		for _, base := range []int{0, 1, 3} {
			if s, e := store.New(great, base, pages); s != nil || e != api.ErrArg {
				t.Errorf("New of %d pages on a great disk: a store: %v, %d", pages, s != nil, e)
			}
			if s, e := store.Open(great, base, pages); s != nil || e != api.ErrArg {
				t.Errorf("Open of %d pages on a great disk: a store: %v, %d", pages, s != nil, e)
			}
		}
	}
	// Five sectors are one page, so a disk of four has no store, wherever it would lie.
	small := made(t, 4)
	for pages := range 10 {
		if s, e := store.Open(small, 0, pages); s != nil || e != api.ErrArg {
			t.Errorf("%d pages in four sectors: a store: %v, %d", pages, s != nil, e)
		}
	}
}

// P7.2

func TestOpenWithoutPower(t *testing.T) {
	d, s := anew(t, 0, 2)
	for range 2 {
		for _, x := range [][2]int{{0, 1}, {0, 2}, {1, 1}, {2, 1}} {
			if s, e := store.Open(without(d), x[0], x[1]); s != nil || e != api.ErrDead {
				t.Fatalf("Open(%d, %d): a store: %v, %d, not ErrDead", x[0], x[1], s != nil, e)
			}
		}
		want(t, "Write", s.Write(0, sample(1)), api.OK) // the second time the journal has something to be written
	}
}

func TestOpenOfNoughts(t *testing.T) {
	for pages := 1; pages <= 8; pages++ {
		d, _ := anew(t, pages, pages)
		want(t, "a write that waits", d.Write(0, strings.Repeat("x", 128)), api.OK)
		wantOpenWrites(t, "noughts", d, pages, pages, nil)
		s := opened(t, d, pages, pages)
		wantTicket(t, "noughts", s, 1)
		if s.Pages() != pages {
			t.Fatalf("Pages: %d, not %d", s.Pages(), pages)
		}
		for i := range pages {
			wantPage(t, "noughts", s, i, page.Empty())
		}
	}
}

func TestOpenWritesThePageOfTheJournal(t *testing.T) {
	for pages := 1; pages <= 8; pages++ {
		for _, base := range []int{0, 1, 9} {
			for i := range pages {
				d, s := anew(t, base, pages)
				for j := range pages {
					want(t, "Write", s.Write(j, sample(j)), api.OK)
				}
				text := bytesOf(sample(20))
				parts := write(t, base, i, pages+1, sample(20))
				want(t, "the journal alone", do(d, parts[:5]), api.OK)
				lay(t, d, base+3+2*i, slab.Zero())
				want(t, "a write that waits", d.Write(base+4+2*i, strings.Repeat("x", 128)), api.OK)
				wantOpenWrites(t, "a page to be written", d, base, pages, homes(t, base, i, uint32(pages+1), text[:112], text[112:]))
				s = opened(t, d, base, pages)
				wantTicket(t, "a page to be written", s, pages+2)
				for j := range pages {
					p := sample(j)
					if j == i {
						p = sample(20)
					}
					wantPage(t, "a page to be written", s, j, p)
				}
				// It is the same when all is there.
				wantOpenWrites(t, "a page that was written", d, base, pages, homes(t, base, i, uint32(pages+1), text[:112], text[112:]))
			}
		}
	}
}

func TestOpenTakesTheHalvesAsTheyAre(t *testing.T) {
	for _, c := range [][2]string{{"", ""}, {"a", "b"}, {strings.Repeat("\x80", 112), strings.Repeat("\xff", 112)}, {strings.Repeat("x", 112), ""}} {
		for _, epoch := range []uint32{0, 1, 1 << 31, math.MaxUint32} {
			d, _ := anew(t, 2, 3)
			lay(t, d, 2, packed(t, epoch, 0, c[0]))
			lay(t, d, 3, packed(t, epoch, 1, c[1]))
			lay(t, d, 4, packed(t, epoch, 2, "\x01"))
			wantOpenWrites(t, "halves of no page", d, 2, 3, homes(t, 2, 1, epoch, c[0], c[1]))
			s := opened(t, d, 2, 3)
			wantNoPage(t, "halves of no page", s, 1, api.ErrTorn)
			wantTicket(t, "halves of no page", s, int(epoch)+1)
		}
	}
}

func TestOpenLeavesAJournalThatIsNotWhole(t *testing.T) {
	const base, pages, i, epoch = 1, 3, 2, 9
	text := bytesOf(sample(7))
	full := write(t, base, i, epoch, sample(7))
	spoiled := func(s string) string { return s[:60] + string([]byte{s[60] ^ 1}) + s[61:] }
	for what, x := range map[string]part{
		"no head":                     {2, slab.Zero()},
		"a head that is no slab":      {2, spoiled(full[3].text)},
		"a head of Index 0":           {2, packed(t, epoch, 0, "\x02")},
		"a head of Index 3":           {2, packed(t, epoch, 3, "\x02")},
		"a head of Index 2^31+2":      {2, packed(t, epoch, 1<<31+2, "\x02")},
		"a head of no byte":           {2, packed(t, epoch, 2, "")},
		"a head of two bytes":         {2, packed(t, epoch, 2, "\x02\x02")},
		"a head of a nought behind":   {2, packed(t, epoch, 2, "\x02\x00")},
		"a head of 112 bytes":         {2, packed(t, epoch, 2, strings.Repeat("\x02", 112))},
		"a head of the page behind":   {2, packed(t, epoch, 2, "\x03")},
		"a head of the page 8":        {2, packed(t, epoch, 2, "\x08")},
		"a head of the page 255":      {2, packed(t, epoch, 2, "\xff")},
		"a head of the Epoch ahead":   {2, packed(t, epoch-1, 2, "\x02")},
		"a head of the Epoch behind":  {2, packed(t, epoch+1, 2, "\x02")},
		"no first copy":               {0, slab.Zero()},
		"a first copy that is torn":   {0, spoiled(full[0].text)},
		"a first copy of Index 1":     {0, packed(t, epoch, 1, text[:112])},
		"a first copy of Index 3":     {0, packed(t, epoch, 3, text[:112])},
		"a first copy of Index 4":     {0, packed(t, epoch, 4, text[:112])}, // that of its home
		"an older first copy":         {0, packed(t, epoch-1, 0, text[:112])},
		"a younger first copy":        {0, packed(t, epoch+1, 0, text[:112])},
		"no second copy":              {1, slab.Zero()},
		"a second copy that is torn":  {1, spoiled(full[1].text)},
		"a second copy of Index 0":    {1, packed(t, epoch, 0, text[112:])},
		"a second copy of Index 2":    {1, packed(t, epoch, 2, text[112:])},
		"a second copy of Index 5":    {1, packed(t, epoch, 5, text[112:])},
		"an older second copy":        {1, packed(t, epoch-1, 1, text[112:])},
		"a younger second copy":       {1, packed(t, epoch+1, 1, text[112:])},
		"a copy of another Epoch far": {1, packed(t, epoch+1<<31, 1, text[112:])},
	} {
		d, s := anew(t, base, pages)
		for j := range pages {
			want(t, "Write", s.Write(j, sample(j)), api.OK)
		}
		want(t, "the journal alone", do(d, full[:5]), api.OK)
		lay(t, d, base+x.sector, x.text)
		want(t, "a write that waits", d.Write(0, strings.Repeat("y", 128)), api.OK)
		wantOpenWrites(t, what, d, base, pages, nil)
		s = opened(t, d, base, pages)
		for j := range pages {
			wantPage(t, what, s, j, sample(j))
		}
	}
}

func TestOpenLeavesCopiesOfOneEpochThatIsNotTheHeads(t *testing.T) {
	for _, epoch := range []uint32{0, 4, 6, math.MaxUint32} {
		d, s := anew(t, 0, 2)
		want(t, "Write", s.Write(1, sample(1)), api.OK)
		want(t, "the copies", do(d, copies(t, 0, epoch, bytesOf(sample(2)))), api.OK)
		lay(t, d, 2, packed(t, 5, 2, "\x01"))
		wantOpenWrites(t, "copies of another Epoch", d, 0, 2, nil)
		wantPage(t, "copies of another Epoch", opened(t, d, 0, 2), 1, sample(1))
	}
}

func TestAHeadGoesByThePagesThatAreThere(t *testing.T) {
	for pages := 1; pages <= 8; pages++ {
		for i := range 10 {
			d, _ := anew(t, 0, 8)
			text := bytesOf(sample(i))
			want(t, "the journal alone", do(d, write(t, 0, i, 3, sample(i))[:5]), api.OK)
			var parts []part
			if i < pages {
				parts = homes(t, 0, i, 3, text[:112], text[112:])
			}
			wantOpenWrites(t, fmt.Sprintf("a head of the page %d of %d", i, pages), d, 0, pages, parts)
		}
	}
}

func TestTheNextTicketIsAboveEachSlabOfTheStore(t *testing.T) {
	for _, pages := range []int{1, 3, 8} {
		for at := range 3 + 2*pages {
			for _, epoch := range []uint32{0, 1, 2, 77, 1 << 31, math.MaxUint32 - 1, math.MaxUint32} {
				for _, x := range []part{{at, ""}, {0, "a"}, {2, "\x00"}, {7, strings.Repeat("b", 112)}, {math.MaxUint32, "cd"}} { // any Index
					d, _ := anew(t, 2, pages)
					lay(t, d, 2+at, packed(t, epoch, x.sector, x.text))
					wantTicket(t, fmt.Sprintf("a slab of Epoch %d and Index %d at %d", epoch, x.sector, at), opened(t, d, 2, pages), int(epoch)+1)
				}
			}
		}
	}
}

func TestTheNextTicketGoesByTheGreatestEpoch(t *testing.T) {
	const pages = 2
	for shift := range 7 {
		d := made(t, 20)
		for at := range 7 {
			lay(t, d, 5+at, packed(t, uint32(10+(at+shift)%7), 99, "x"))
		}
		lay(t, d, 4, packed(t, 50, 99, "x"))  // ahead of the store
		lay(t, d, 12, packed(t, 60, 99, "x")) // behind it
		wantTicket(t, "a slab in each sector", opened(t, d, 5, pages), 17)
		for at := range 7 {
			lay(t, d, 5+at, strings.Repeat("\xff", 128)) // no slab, so its first bytes are no Epoch
		}
		wantTicket(t, "no slab", opened(t, d, 5, pages), 1)
		want(t, "a write that waits", d.Write(5+shift, packed(t, 30, 99, "")), api.OK)
		wantTicket(t, "a slab that waits", opened(t, d, 5, pages), 31)
	}
}

func TestTicketsGoOnBehindOpen(t *testing.T) {
	d, s := anew(t, 3, 4)
	for k := 1; k <= 40; k++ {
		wantTicket(t, "behind writes", s, k)
		want(t, "Write", s.Write(k%4, sample(k)), api.OK)
		wantTicket(t, "behind one more", s, k+1)
		if k%3 == 0 {
			d.Crash([]uint8{2})
			s = opened(t, d, 3, 4)
		}
	}
}

// Behind the greatest Epoch there is none: pages are written and read all the same.
func TestTheGreatestEpoch(t *testing.T) {
	for at := range 7 {
		d, _ := anew(t, 0, 2)
		lay(t, d, at, packed(t, math.MaxUint32, 50, ""))
		s := opened(t, d, 0, 2)
		for k := range 5 {
			wantTicket(t, "behind the greatest Epoch", s, math.MaxUint32+1+k)
			want(t, "Write", s.Write(k%2, sample(k)), api.OK)
			wantPage(t, "behind the greatest Epoch", s, k%2, sample(k))
			wantPage(t, "opened again", opened(t, d, 0, 2), k%2, sample(k))
		}
	}
}

// P7.3

func TestWriteDoesItsPartsInTheirOrder(t *testing.T) {
	for pages := 1; pages <= 8; pages++ {
		for _, base := range []int{0, 1, 6} {
			d, s := anew(t, base, pages)
			for i := range pages {
				wantWriteDoesItsParts(t, d, base, pages, i, i+1)
				want(t, "Write", s.Write(i, sample(i)), api.OK)
			}
		}
	}
}

// wantWriteDoesItsParts writes a page with each fuse, and holds what that does against the parts that it should do.
func wantWriteDoesItsParts(t *testing.T, d *disk.Disk, base, pages, i, ticket int) {
	t.Helper()
	for fuse := -1; fuse <= 8; fuse++ {
		what := fmt.Sprintf("Write(%d) of %d pages with the fuse %d", i, pages, fuse)
		c, other := d.Copy(), d.Copy()
		s := opened(t, c, base, pages)
		wantTicket(t, what+", ahead", s, ticket)
		c.Arm(fuse)
		other.Arm(fuse)
		p := sample(10*i + fuse + 1)
		e, f := s.Write(i, p), do(other, write(t, base, i, ticket, p))
		if e != f || (e == api.OK) != (fuse < 0 || fuse == 8) {
			t.Fatalf("%s: %d, not %d", what, e, f)
		}
		wantSameDisk(t, what, c, other)
		wantTicket(t, what+", behind", s, ticket+1) // borne or not
		if fuse == 8 {
			want(t, "Sync", c.Sync(), api.ErrDead) // it used all of the fuse
		}
	}
}

func TestWriteMakesSafeWhatWaits(t *testing.T) {
	for fuse := range 9 {
		d := made(t, 20)
		s, _ := store.New(d, 4, 2)
		other := d.Copy()
		for _, x := range []*disk.Disk{d, other} {
			for _, i := range []int{0, 19, 4, 6, 8, 0} { // somebody else's, and some that the store writes upon
				want(t, "a write that waits", x.Write(i, strings.Repeat(string([]byte{byte('a' + i)}), 128)), api.OK)
			}
			x.Arm(fuse)
		}
		if e, f := s.Write(0, sample(1)), do(other, write(t, 4, 0, 1, sample(1))); e != f {
			t.Fatalf("Write with the fuse %d: %d, not %d", fuse, e, f)
		}
		wantSameDisk(t, fmt.Sprintf("Write with the fuse %d", fuse), d, other)
	}
}

func TestPagesAreWrittenOverOneAnother(t *testing.T) {
	for pages := 1; pages <= 8; pages++ {
		for _, base := range []int{0, 1, 100} {
			d, s := anew(t, base, pages)
			other := d.Copy()
			now := slices.Repeat([]api.Page{page.Empty()}, pages)
			for k := range 3 * pages {
				i := k * k % pages
				now[i] = sample(k)
				want(t, "Write", s.Write(i, now[i]), api.OK)
				want(t, "its parts", do(other, write(t, base, i, k+1, now[i])), api.OK)
				wantSameDisk(t, "behind Write", d, other)
				again := opened(t, d.Copy(), base, pages)
				for j, p := range now {
					wantPage(t, "behind Write", s, j, p)
					wantPage(t, "opened again", again, j, p)
				}
			}
		}
	}
}

func TestTheEdgesOfPages(t *testing.T) {
	d, s := anew(t, 0, 1)
	for k, p := range []api.Page{
		page.Empty(),
		{At: math.MaxInt32, Data: strings.Repeat("\xff", 220)},
		{At: 1, Data: strings.Repeat("\x00", 220)},
		{At: 0, Data: strings.Repeat("\x00", 219) + "\x01"},
		{At: 1 << 24, Data: strings.Repeat("\x00", 107) + "\x80\x7f" + strings.Repeat("\x00", 111)},
	} {
		want(t, "Write", s.Write(0, p), api.OK)
		wantPage(t, "an edge", s, 0, p)
		d.Crash(nil)
		s = opened(t, d, 0, 1)
		wantPage(t, "opened again", s, 0, p)
		wantTicket(t, "an edge", s, k+2)
	}
}

// wrongPages are pages that aren't right.
func wrongPages() []api.Page {
	right := strings.Repeat("x", 220)
	return []api.Page{
		{}, {At: 5}, {At: -1, Data: right}, {At: math.MinInt, Data: right}, {At: 1 << 31, Data: right}, {At: 1 << 32, Data: right}, {At: math.MaxInt, Data: right},
		{Data: right[1:]}, {Data: right + "x"}, {Data: right + right}, {At: -1, Data: "x"}, {Data: strings.Repeat("x", 224)},
	}
}

func TestWriteRefusesWhatMayNotBe(t *testing.T) {
	for _, pages := range []int{1, 2, 8} {
		d, s := anew(t, 1, pages)
		want(t, "Write", s.Write(pages-1, sample(1)), api.OK)
		was := d.Copy()
		for _, dead := range []bool{false, true} {
			d.Arm(0) // a write or a sync would be seen
			if dead {
				d.Sync()
			}
			for _, i := range []int{-1, -2, pages, pages + 1, 9, 256, 1 << 32, 1<<32 + pages - 1, math.MinInt, math.MaxInt, math.MinInt + 1} {
				want(t, "Write of a right page", s.Write(i, sample(2)), api.ErrRange)
				for _, p := range wrongPages() {
					want(t, "Write of a wrong page", s.Write(i, p), api.ErrRange)
				}
				wantNoPage(t, "no such page", s, i, api.ErrRange)
				want(t, "Lose", s.Lose(i), api.ErrRange)
			}
			for i := range pages {
				for _, p := range wrongPages() {
					want(t, "Write of a wrong page", s.Write(i, p), api.ErrForm)
				}
			}
			wantTicket(t, "behind errors", s, 2)
			if d.Dead() != dead {
				t.Fatal("the disk was touched")
			}
		}
		want(t, "Write without power", s.Write(0, sample(2)), api.ErrDead)
		wantTicket(t, "behind a write that isn't borne", s, 3)
		d.Crash(nil)
		wantSameDisk(t, "behind errors", d, was)
	}
}

// P7.4

func TestReadOfHomesThatAreNoPage(t *testing.T) {
	const base, pages, i = 2, 3, 1
	text := bytesOf(sample(3))
	a, b := text[:112], text[112:]
	first, second := packed(t, 5, 2, a), packed(t, 5, 3, b)
	for what, x := range map[string][2]string{
		"the first one lost":               {slab.Zero(), second},
		"the second one lost":              {first, slab.Zero()},
		"both are no slabs":                {strings.Repeat("x", 128), strings.Repeat("y", 128)},
		"the first one is no slab":         {first[:127] + "\xa5", second},
		"the second one is no slab":        {first, second[:127] + "\xa5"},
		"noughts but for a bit":            {slab.Zero(), slab.Zero()[:127] + "\x01"},
		"an older first one":               {packed(t, 4, 2, a), second},
		"a younger first one":              {packed(t, 6, 2, a), second},
		"an older second one":              {first, packed(t, 4, 3, b)},
		"a younger second one":             {first, packed(t, 6, 3, b)},
		"an Epoch and 2^31":                {first, packed(t, 5+1<<31, 3, b)},
		"both of another page":             {packed(t, 5, 0, a), packed(t, 5, 1, b)},
		"both of the page behind":          {packed(t, 5, 4, a), packed(t, 5, 5, b)},
		"both by their sectors":            {packed(t, 5, 5, a), packed(t, 5, 6, b)},
		"the first one's Index twice":      {first, packed(t, 5, 2, b)},
		"the second one's Index twice":     {packed(t, 5, 3, a), second},
		"one for the other":                {second, first},
		"an Index and 2^31":                {first, packed(t, 5, 1<<31+3, b)},
		"a short first half":               {packed(t, 5, 2, a[:111]), second},
		"a short second half":              {first, packed(t, 5, 3, b[:111])},
		"no bodies":                        {packed(t, 5, 2, ""), packed(t, 5, 3, "")},
		"a place above all":                {packed(t, 5, 2, "\x80"+a[1:]), second},
		"the place -1":                     {packed(t, 5, 2, "\xff\xff\xff\xff"+a[4:]), second},
		"an empty slab beside noughts":     {packed(t, 0, 2, ""), slab.Zero()},
		"noughts beside a slab of Epoch 0": {slab.Zero(), packed(t, 0, 3, "")},
	} {
		d, s := anew(t, base, pages)
		want(t, "Write", s.Write(0, sample(10)), api.OK)
		want(t, "Write", s.Write(2, sample(12)), api.OK)
		for k, sector := range x {
			lay(t, d, base+3+2*i+k, sector)
		}
		was := d.Copy()
		for range 2 {
			wantNoPage(t, what, s, i, api.ErrTorn)
			wantPage(t, what+", the page ahead", s, 0, sample(10))
			wantPage(t, what+", the page behind", s, 2, sample(12))
		}
		wantSameDisk(t, what, d, was)
		want(t, what+", Write", s.Write(i, sample(4)), api.OK) // over whatever lies there
		wantPage(t, what+", and written", s, i, sample(4))
	}
}

func TestReadTakesAnyEpoch(t *testing.T) {
	for _, epoch := range []uint32{0, 1, 5, 1 << 31, math.MaxUint32} {
		d, s := anew(t, 1, 8)
		for i := range 8 {
			text := bytesOf(sample(i))
			want(t, "the homes", do(d, homes(t, 1, i, epoch, text[:112], text[112:])), api.OK)
			wantPage(t, "homes of one Epoch", s, i, sample(i)) // whatever its ticket is
		}
		wantTicket(t, "behind Read", s, 1)
	}
}

func TestReadTakesWhatWaits(t *testing.T) {
	d, s := anew(t, 0, 2)
	text := bytesOf(sample(2))
	want(t, "homes that wait", do(d, homes(t, 0, 1, 9, text[:112], text[112:])[:2]), api.OK)
	wantPage(t, "homes that wait", s, 1, sample(2))
	d.Arm(0)
	wantPage(t, "with a fuse of 0", s, 1, sample(2))
	if d.Dead() {
		t.Fatal("Read needs a fuse")
	}
}

func TestWithoutPower(t *testing.T) {
	d, s := anew(t, 1, 2)
	want(t, "Write", s.Write(0, sample(1)), api.OK)
	was := d.Copy()
	d.Arm(0)
	d.Sync()
	for range 2 {
		for i := range 2 {
			wantNoPage(t, "without power", s, i, api.ErrDead)
			want(t, "Lose without power", s.Lose(i), api.ErrDead)
		}
	}
	wantTicket(t, "without power", s, 2)
	d.Crash(nil)
	wantSameDisk(t, "with power again", d, was)
	wantPage(t, "with power again", s, 0, sample(1))
}

func TestLose(t *testing.T) {
	for pages := 1; pages <= 8; pages++ {
		for i := range pages {
			d, s := anew(t, 1, pages)
			for j := range pages {
				want(t, "Write", s.Write(j, sample(j)), api.OK)
			}
			want(t, "a write that waits", d.Write(1+3+2*i, strings.Repeat("x", 128)), api.OK)
			want(t, "a write that waits", d.Write(0, strings.Repeat("x", 128)), api.OK)
			other := d.Copy()
			d.Arm(0) // it needs no write
			want(t, "Lose", s.Lose(i), api.OK)
			want(t, "disk.Lose", other.Lose(1+3+2*i), api.OK)
			want(t, "disk.Lose", other.Lose(1+4+2*i), api.OK)
			wantSameDisk(t, "behind Lose", d, other)
			wantTicket(t, "behind Lose", s, pages+1)
			d.Arm(-1)
			for j := range pages {
				p := sample(j)
				if j == i {
					p = page.Empty()
				}
				wantPage(t, "behind Lose", s, j, p)
			}
			want(t, "Lose again", s.Lose(i), api.OK)
			want(t, "Write", s.Write(i, sample(30)), api.OK)
			wantPage(t, "written again", s, i, sample(30))
		}
	}
}

// What is lost is there again behind Open just where the journal has it.
func TestOpenBehindLose(t *testing.T) {
	d, s := anew(t, 0, 3)
	for i := range 3 {
		want(t, "Write", s.Write(i, sample(i)), api.OK)
	}
	for i := range 3 {
		want(t, "Lose", s.Lose(i), api.OK)
	}
	s = opened(t, d, 0, 3)
	wantPage(t, "an older one", s, 0, page.Empty())
	wantPage(t, "an older one", s, 1, page.Empty())
	wantPage(t, "the last one", s, 2, sample(2))
	wantTicket(t, "behind Lose", s, 4)
}

func TestStoresThatNewDidNotMake(t *testing.T) {
	var none *store.Store
	for s, e := range map[*store.Store]api.Errno{none: api.ErrNil, {}: api.ErrRange} {
		for _, i := range []int{0, -1, 1, 8, math.MinInt, math.MaxInt} {
			want(t, "Write", s.Write(i, sample(1)), e)
			want(t, "Write", s.Write(i, api.Page{}), e)
			want(t, "Lose", s.Lose(i), e)
			wantNoPage(t, "no store", s, i, e)
		}
		if s.Pages() != 0 || s.Ticket() != 0 {
			t.Errorf("Pages %d, Ticket %d", s.Pages(), s.Ticket())
		}
	}
}

func TestTwoStoresOnOneDisk(t *testing.T) {
	d := made(t, 3+2+7+1)
	a, e := store.New(d, 0, 1)
	b, f := store.New(d, 5, 2)
	if e != api.OK || f != api.OK {
		t.Fatal(e, f)
	}
	for k := range 6 {
		want(t, "Write", a.Write(0, sample(k)), api.OK)
		want(t, "Write", b.Write(k%2, sample(k+10)), api.OK)
		a, b = opened(t, d, 0, 1), opened(t, d, 5, 2)
		wantPage(t, "the first store", a, 0, sample(k))
		wantPage(t, "the other store", b, k%2, sample(k+10))
		wantTicket(t, "the first store", a, k+2)
		wantTicket(t, "the other store", b, k+2)
	}
}
