package pool_test

import (
	"fmt"
	"slices"
	"testing"

	"careen/api"
	"careen/disk"
	"careen/page"
	"careen/pool"
	"careen/store"
	"careen/wal"
)

// dice is a row of numbers that look like any ones, the same at each run.
type dice uint64

func (x *dice) below(n int) int {
	*x ^= *x << 13
	*x ^= *x >> 7
	*x ^= *x << 17
	return int(uint64(*x) >> 33 % uint64(n))
}

func (x *dice) picks() []uint8 {
	list := make([]uint8, x.below(4))
	for j := range list {
		list[j] = uint8(x.below(256))
	}
	return list
}

// All rows of a few calls.

// calls are all that a short row may have in it, for so many pages and frames.
func calls(t *testing.T, pages, frames int) []func(b *twins, k int) {
	t.Helper()
	var list []func(b *twins, k int)
	for i := range pages {
		list = append(list,
			func(b *twins, k int) { b.get(t, i) },
			func(b *twins, k int) { b.put(t, i, b.record(t, i, k)) },
			func(b *twins, k int) { b.drop(t, i) })
	}
	for f := range frames {
		list = append(list, func(b *twins, k int) { b.evict(t, f) })
	}
	return list
}

func TestEachRowOfAFewCalls(t *testing.T) {
	for _, size := range [][3]int{{2, 1, 5}, {2, 2, 4}, {3, 2, 4}, {4, 3, 3}} { // pages, frames, calls in a row
		list := calls(t, size[0], size[1])
		rows := 1
		for range size[2] {
			rows *= len(list)
		}
		for row := range rows {
			b := born(t, size[0], size[1])
			b.get(t, 0) // else most rows would do nothing
			for k, rest := 0, row; k < size[2]; k, rest = k+1, rest/len(list) {
				list[rest%len(list)](b, k)
			}
			if !slices.Equal(b.p.Dirty(), b.q.dirty()) || b.s.Ticket() != b.q.s.Ticket() || b.l.Next() != b.q.l.Next() {
				b.same(t, fmt.Sprintf("the row %d", row))
			}
			b.settle(t, fmt.Sprintf("the row %d", row))
		}
	}
}

// Long rows, with crashes, pages that are lost and torn, and wrong calls among them.

// number is mostly one below n, sometimes one at an edge of it.
func (x *dice) number(n int) int {
	if x.below(12) == 0 {
		return x.below(2)*(n+1) - 1
	}
	return x.below(n)
}

// page is a page to be put: mostly one with a record of its own.
func (b *twins) page(t *testing.T, x *dice, i, k int) api.Page {
	t.Helper()
	switch x.below(10) {
	case 0:
		return wrong()[x.below(len(wrong()))]
	case 1:
		return sample(x.below(2)*x.below(1<<31), k)
	}
	if i < 0 || i >= 8 || b.l.Room() < 2 {
		return sample(max(0, b.l.Next()*128-x.below(300)), k)
	}
	return b.record(t, i, k)
}

// beside does something beside the pool.
func (b *twins) beside(t *testing.T, x *dice, i int) string {
	t.Helper()
	switch x.below(5) {
	case 0:
		n := x.below(20) - 5
		b.both(func(g ground) { g.d.Arm(n) })
		return "Arm"
	case 1:
		picks := x.picks()
		b.both(func(g ground) { g.d.Crash(picks) })
		return "Crash"
	case 2:
		b.both(func(g ground) { g.s.Lose(i) })
		return "Lose"
	case 3:
		if b.d.Dead() || i < 0 || i >= b.s.Pages() {
			return "nothing"
		}
		home := 3 + 2*i + x.below(2)
		b.both(func(g ground) { g.d.Lose(home) })
		return "half of Lose"
	}
	b.both(func(g ground) {
		g.l.Flush()
		g.l.Cut(g.l.Next() - 1)
	})
	return "Flush and Cut"
}

// step does one thing to the twins.
func (b *twins) step(t *testing.T, x *dice, k int) string {
	t.Helper()
	i := x.number(b.s.Pages())
	switch n := x.below(20); {
	case n < 7:
		return fmt.Sprintf("Get(%d): %d", i, b.get(t, i))
	case n < 13:
		return fmt.Sprintf("Put(%d): %d", i, b.put(t, i, b.page(t, x, i, k)))
	case n < 15:
		f := x.number(len(b.q.frames))
		return fmt.Sprintf("Evict(%d): %d", f, b.evict(t, f))
	case n < 16:
		return fmt.Sprintf("Drop(%d): %d", i, b.drop(t, i))
	}
	return b.beside(t, x, i)
}

func TestAPoolIsAsAPlainOne(t *testing.T) {
	for seed := range 300 {
		x := dice(seed*7919 + 1)
		b := born(t, 1+x.below(8), 1+x.below(8))
		for k := range 80 {
			b.same(t, fmt.Sprintf("the seed %d, the step %d, %s", seed, k, b.step(t, &x, k)))
		}
	}
}

// P8.5

// change logs a change of a page, and puts it into a pool; what the page is then.
func change(t *testing.T, l *wal.Log, p *pool.Pool, i, k int) (api.Page, api.Errno) {
	t.Helper()
	was, e := p.Get(i)
	if e != api.OK {
		return api.Page{}, e
	}
	off := k * 31 % 205
	before, _ := page.Get(was, off, 16)
	r := api.Rec{Kind: api.RUpdate, Txn: 1, Page: i, Off: off, Before: before, After: fmt.Sprintf("the change %5d", k)}
	at, e := l.Append(r)
	if e != api.OK {
		want(t, "Append to a log without room", e, api.ErrFull)
		want(t, "Flush of it", l.Flush(), api.OK)
		want(t, "Cut of it", l.Cut(l.Next()), api.OK)
		at, e = l.Append(r)
		want(t, "Append to a log with room", e, api.OK)
	}
	x := page.Apply(was, at, r)
	want(t, "Put", p.Put(i, x), api.OK)
	return x, api.OK
}

// wantSafe holds that no page of the store has a record that isn't safe.
func wantSafe(t *testing.T, what string, s *store.Store, l *wal.Log) {
	t.Helper()
	for i := range s.Pages() {
		if x, e := s.Read(i); e != api.OK || !l.Safe(x.At) {
			t.Fatalf("%s: the store has the page %d with the record at %d, which isn't safe (%d)", what, i, x.At, e)
		}
	}
}

func TestPagesAreWhatWasPutLast(t *testing.T) {
	for pages := 1; pages <= 8; pages++ {
		for frames := 1; frames <= 8; frames++ {
			x := dice(pages*104729 + frames)
			g := made(t, pages)
			p, e := pool.New(g.s, g.l, frames)
			want(t, "New", e, api.OK)
			now := slices.Repeat([]api.Page{page.Empty()}, pages)
			for k := range 120 {
				i := x.below(pages)
				switch x.below(6) {
				case 0:
					p.Evict(x.below(frames))
				case 1:
					want(t, "Flush", g.l.Flush(), api.OK)
				case 2:
					got, e := p.Get(i)
					wantPage(t, "Get", got, e, now[i])
				default:
					now[i], e = change(t, g.l, p, i, k)
					want(t, "a change", e, api.OK)
				}
				for i, is := range now {
					got, e := p.Peek(i)
					wantPage(t, fmt.Sprintf("%d pages, %d frames, the step %d: the page %d", pages, frames, k, i), got, e, is)
				}
				wantSafe(t, "without crashes", g.s, g.l)
			}
			for f := range frames {
				p.Evict(f)
			}
			for i, is := range now {
				got, e := g.s.Read(i)
				wantPage(t, "the store, when all frames are empty", got, e, is)
			}
		}
	}
}

// story is a pool that is changed until the power goes, and what its pages have been.
type story struct {
	ground
	past [][]api.Page // of each page, all that it was, in order
	log  []api.Entry  // all that was logged
}

// tell changes pages with a fuse, until the power goes, or so many changes are done.
func tell(t *testing.T, pages, frames, fuse, changes int, x *dice) *story {
	t.Helper()
	g := laid(t, pages, 64) // room for all of it
	p, e := pool.New(g.s, g.l, frames)
	want(t, "New", e, api.OK)
	y := &story{ground: g, past: make([][]api.Page, pages)}
	for i := range y.past {
		y.past[i] = []api.Page{page.Empty()}
	}
	g.d.Arm(fuse)
	for k := range changes {
		i := x.below(pages)
		is, e := change(t, g.l, p, i, k)
		if e == api.OK {
			y.past[i] = append(y.past[i], is)
			if x.below(5) == 0 {
				e = p.Evict(x.below(frames))
			}
		}
		if e == api.ErrDead {
			break
		}
	}
	y.log = g.l.Scan(0)
	return y
}

// wantAhead crashes a story's disk, opens log and store again, and holds that each page is one that it was, with a record that the log has.
func (y *story) wantAhead(t *testing.T, what string, d *disk.Disk, picks []uint8) {
	t.Helper()
	n := store.Sectors(len(y.past))
	d.Crash(picks)
	s, e := store.Open(d, 0, len(y.past))
	want(t, what+": store.Open", e, api.OK)
	l, e := wal.Open(d, n, 64, 1)
	want(t, what+": wal.Open", e, api.OK)
	wantSafe(t, what, s, l)
	for i, past := range y.past {
		is, e := s.Read(i)
		if e != api.OK || !slices.Contains(past, is) {
			t.Fatalf("%s: the page %d is %s, which it never was (%d)", what, i, told(is), e)
		}
		if r, e := l.Read(is.At); is.At > 0 && (e != api.OK || r.Page != i) {
			t.Fatalf("%s: the page %d has the record at %d, which the log hasn't (%d)", what, i, is.At, e)
		}
	}
	if list := l.Scan(0); len(list) > len(y.log) || !sameRecords(list, y.log[:len(list)]) {
		t.Fatalf("%s: the log has %d records that are no beginning of the %d that it had", what, len(list), len(y.log))
	}
}

func TestNoCrashLeavesAPageAheadOfTheLog(t *testing.T) {
	stolen := 0
	for pages := 1; pages <= 8; pages++ {
		for _, frames := range []int{1, 2, 3, 8} {
			for fuse := range 60 {
				x := dice(pages*1000003 + frames*7919 + fuse*31 + 1)
				y := tell(t, pages, frames, fuse, 14, &x)
				what := fmt.Sprintf("%d pages, %d frames, the power goes behind %d", pages, frames, fuse)
				for _, picks := range [][]uint8{{0}, {1}, {2}, {0, 1}, {1, 0}, {1, 2}, {2, 1, 0}, x.picks()} {
					y.wantAhead(t, what, y.d.Copy(), picks)
				}
				if y.s.Ticket() > 1 {
					stolen++
				}
			}
		}
	}
	if stolen < 1000 {
		t.Fatalf("only %d stories in which a page was written", stolen)
	}
}
