package pool_test

import (
	"fmt"
	"math"
	"slices"
	"strings"
	"testing"
	"unsafe"

	"careen/api"
	"careen/page"
	"careen/pool"
	"careen/store"
	"careen/wal"
)

// orders is each order of the numbers below n.
func orders(n int) [][]int {
	if n == 0 {
		return [][]int{nil}
	}
	var list [][]int
	for _, ahead := range orders(n - 1) {
		for k := range n {
			list = append(list, slices.Insert(slices.Clone(ahead), k, n-1))
		}
	}
	return list
}

// shares tells whether two texts lie in the same memory, in part.
func shares(a, b string) bool {
	from, to := uintptr(unsafe.Pointer(unsafe.StringData(a))), uintptr(unsafe.Pointer(unsafe.StringData(b)))
	return from < to+uintptr(len(b)) && to < from+uintptr(len(a))
}

// The chapter's example.

func TestExample(t *testing.T) {
	g := made(t, 2)
	p, e := pool.New(g.s, g.l, 1)
	want(t, "New", e, api.OK)
	x, e := p.Get(0)
	wantPage(t, "Get(0)", x, e, page.Empty())
	want(t, "Put(0)", p.Put(0, sample(0, 7)), api.OK)
	x, e = p.Get(1)
	wantPage(t, "Get(1)", x, e, page.Empty())
	x, e = g.s.Read(0)
	wantPage(t, "the page 0 in the store", x, e, sample(0, 7))
	wantRows(t, "behind Get(1)", p.Dirty())
	if k := p.Holds(0); k != -1 {
		t.Errorf("the page 0 is in the frame %d", k)
	}
}

// P8.1

func TestANewPoolHasEmptyFrames(t *testing.T) {
	for pages := 1; pages <= 8; pages++ {
		for frames := 1; frames <= 8; frames++ {
			b := born(t, pages, frames)
			b.same(t, "a new pool")
			if n := b.p.Frames(); n != frames {
				t.Fatalf("Frames: %d, not %d", n, frames)
			}
			wantRows(t, "a new pool", b.p.Dirty())
			for k := range frames {
				want(t, "Evict of a new frame", b.p.Evict(k), api.ErrNone)
			}
			for i := -1; i <= pages; i++ {
				if k := b.p.Holds(i); k != -1 {
					t.Fatalf("a new pool has the page %d in the frame %d", i, k)
				}
			}
		}
	}
}

func TestNewTouchesNothing(t *testing.T) {
	b := born(t, 2, 2)
	b.record(t, 0, 1)
	b.both(func(g ground) {
		want(t, "Write", g.s.Write(1, sample(7, 7)), api.OK)
		want(t, "a write that waits", g.d.Write(9, strings.Repeat("x", 128)), api.OK)
	})
	for _, lose := range []bool{false, true} {
		b.d.Arm(0)
		p, e := pool.New(b.s, b.l, 2)
		want(t, "New", e, api.OK)
		if p.Holds(0) != -1 || p.Holds(1) != -1 || p.Dirty() != nil {
			t.Fatal("a pool over a store that has pages has some from the beginning on")
		}
		b.d.Arm(-1)
		wantSameGround(t, "behind New", b.ground, b.q.ground)
		if lose {
			b.both(powerless)
		}
	}
}

func TestNewRefusesWhatMayNotBe(t *testing.T) {
	g := made(t, 3)
	for _, frames := range []int{0, -1, -8, 9, 10, 16, 256, 257, 1<<32 + 1, math.MinInt, math.MinInt + 1, math.MaxInt, 1, 2, 7, 8} {
		for _, c := range []struct {
			s *store.Store
			l *wal.Log
		}{{nil, g.l}, {g.s, nil}, {nil, nil}} {
			if p, e := pool.New(c.s, c.l, frames); p != nil || e != api.ErrNil {
				t.Errorf("New with a store: %v, a log: %v, %d frames: a pool: %v, %d", c.s != nil, c.l != nil, frames, p != nil, e)
			}
		}
		p, e := pool.New(g.s, g.l, frames)
		if ok := frames >= 1 && frames <= 8; ok != (p != nil) || ok != (e == api.OK) || !ok && e != api.ErrArg {
			t.Errorf("New of %d frames: a pool: %v, %d", frames, p != nil, e)
		}
	}
}

// P8.2

// noPages are numbers that a store of so many pages hasn't.
func noPages(pages int) []int {
	return []int{-1, -2, -8, pages, pages + 1, 8, 9, 255, 256, 1 << 32, math.MinInt, math.MinInt + 1, math.MaxInt}
}

func TestGetRefusesPagesThatTheStoreHasNot(t *testing.T) {
	for pages := 1; pages <= 8; pages++ {
		b := full(t, pages, max(1, pages-1))
		b.d.Arm(0)
		for range 2 { // with power, and without
			for _, i := range noPages(pages) {
				x, e := b.p.Get(i)
				wantNoPage(t, fmt.Sprintf("Get(%d) of %d pages", i, pages), x, e, api.ErrRange)
			}
			b.d.Arm(-1)
			b.same(t, "behind pages that aren't there")
			b.both(powerless)
		}
		b.both(func(g ground) { g.d.Crash(nil) })
		b.settle(t, "behind pages that aren't there")
	}
}

func TestEmptyFramesAreUsedFromTheLeastOn(t *testing.T) {
	for _, order := range orders(4) {
		b := born(t, 4, 4)
		for k, i := range order {
			want(t, "Get", b.get(t, i), api.OK)
			if got := b.p.Holds(i); got != k {
				t.Fatalf("pages in the order %v: %d is in the frame %d", order, i, got)
			}
		}
	}
	for frames := 1; frames <= 8; frames++ {
		for gone := range 1 << frames { // the frames that are emptied, one by Evict, the next one by Drop
			b := born(t, 8, frames)
			for i := range frames {
				want(t, "Get", b.get(t, i), api.OK)
			}
			var free []int
			for k := frames - 1; k >= 0; k-- {
				switch {
				case gone>>k&1 == 0:
					continue
				case k%2 == 0:
					want(t, "Evict", b.evict(t, k), api.OK)
				default:
					want(t, "Drop", b.drop(t, k), api.OK)
				}
				free = append([]int{k}, free...)
			}
			for n, k := range free {
				if frames+n < 8 {
					want(t, "Get", b.get(t, frames+n), api.OK)
					if got := b.p.Holds(frames + n); got != k {
						t.Fatalf("%d frames, of them %v empty: the page comes to %d, not %d", frames, free[n:], got, k)
					}
				}
			}
			b.same(t, "frames that were emptied, and used again")
		}
	}
}

func TestTheHandGoesRound(t *testing.T) {
	for frames := 1; frames <= 8; frames++ {
		for pages := frames + 1; pages <= 8; pages++ {
			b := full(t, pages, frames)
			for n := range 3*frames + 2 {
				i := (frames + n) % pages // never a page that a frame has: the oldest ones go first
				want(t, "Get", b.get(t, i), api.OK)
				if k := b.p.Holds(i); k != n%frames {
					t.Fatalf("%d frames: the page behind %d others comes to the frame %d, not %d", frames, n, k, n%frames)
				}
				for j := range pages {
					if b.p.Holds(j) >= 0 {
						want(t, "Get of a page that is there", b.get(t, j), api.OK) // the hand stays
					}
				}
				b.same(t, "the hand goes round")
			}
		}
	}
}

// What empties a frame by itself leaves the hand where it is.
func TestTheHandStaysWhereFramesAreEmptiedOtherwise(t *testing.T) {
	for frames := 2; frames <= 7; frames++ {
		for at := range frames { // the hand
			for k := range frames {
				b := born(t, 8, frames)
				for n := range frames + at {
					want(t, "Get", b.get(t, n%8), api.OK)
				}
				if k%2 == 0 {
					want(t, "Evict", b.evict(t, k), api.OK)
				} else {
					for i := range 8 {
						if b.p.Holds(i) == k {
							want(t, "Drop", b.drop(t, i), api.OK)
							break
						}
					}
				}
				var lack []int
				for i := range 8 {
					if b.p.Holds(i) < 0 {
						lack = append(lack, i)
					}
				}
				want(t, "Get into the empty frame", b.get(t, lack[0]), api.OK)
				if got := b.p.Holds(lack[0]); got != k {
					t.Fatalf("%d frames, the hand at %d: the page comes to %d, not %d", frames, at, got, k)
				}
				want(t, "Get where the hand is", b.get(t, lack[1]), api.OK)
				if got := b.p.Holds(lack[1]); got != at {
					t.Fatalf("%d frames, the hand at %d: the page comes to %d", frames, at, got)
				}
			}
		}
	}
}

func TestGetOfAPageThatAFrameHas(t *testing.T) {
	b := full(t, 3, 2)
	x, y := b.q.frames[0].page, b.q.frames[1].page
	b.both(func(g ground) {
		want(t, "a page that is written beside the pool", g.s.Write(0, sample(9, 9)), api.OK)
		want(t, "a page that is lost", g.s.Lose(1), api.OK)
	})
	for _, fuse := range []int{-1, 0} {
		b.d.Arm(fuse)
		got, e := b.p.Get(0)
		wantPage(t, "Get(0)", got, e, x)
		got, e = b.p.Get(1)
		wantPage(t, "Get(1)", got, e, y)
	}
	b.d.Sync()
	got, e := b.p.Get(0)
	wantPage(t, "Get(0) without power", got, e, x)
	want(t, "Drop", b.p.Drop(0), api.OK)
	b.d.Crash(nil)
	got, e = b.p.Get(0)
	wantPage(t, "Get(0) of the store's", got, e, sample(9, 9))
}

func TestWhatIsReadIsNotDirty(t *testing.T) {
	b := born(t, 3, 2)
	b.both(func(g ground) { want(t, "Write", g.s.Write(1, sample(128, 5)), api.OK) })
	x, e := b.p.Get(1)
	wantPage(t, "Get(1)", x, e, sample(128, 5))
	wantRows(t, "a page that was read", b.p.Dirty())
	// The frame was dirty with another page: that is no more.
	want(t, "Put", b.p.Put(1, sample(130, 6)), api.OK)
	b.p.Get(0)
	x, e = b.p.Get(2)
	wantPage(t, "Get(2)", x, e, page.Empty())
	if k := b.p.Holds(2); k != 0 {
		t.Fatalf("the page 2 comes to the frame %d", k)
	}
	wantRows(t, "a page that was read into a frame that was dirty", b.p.Dirty())
}

func TestGetWhosePageCanNotBeRead(t *testing.T) {
	for frames := 1; frames <= 7; frames++ {
		for at := range frames { // the hand
			b := born(t, 8, frames)
			b.both(func(g ground) { torn(t, g, 7) })
			for i := range frames + at {
				want(t, "Get", b.get(t, i%7), api.OK)
			}
			hand := b.q.hand
			want(t, "Put", b.put(t, b.q.frames[hand].number, b.record(t, 0, 3)), api.OK)
			for range 3 { // the second and the third time there is an empty frame
				x, e := b.p.Get(7)
				wantNoPage(t, "a page that is torn", x, e, api.ErrTorn)
				want(t, "a page that is torn", b.get(t, 7), api.ErrTorn)
				b.same(t, "behind a page that is torn")
				want(t, "the frame that it didn't come to", b.p.Evict(hand), api.ErrNone)
			}
			var lack []int
			for i := range 7 {
				if b.p.Holds(i) < 0 {
					lack = append(lack, i)
				}
			}
			want(t, "Get into the empty frame", b.get(t, lack[0]), api.OK)
			if k := b.p.Holds(lack[0]); k != hand {
				t.Fatalf("the page comes to %d, not %d", k, hand)
			}
			b.settle(t, "behind a page that is torn")
		}
	}
}

func TestGetWithoutPower(t *testing.T) {
	b := full(t, 4, 3)
	want(t, "Evict", b.evict(t, 0), api.OK)
	want(t, "Get", b.get(t, 0), api.OK) // it is clean, so it needs no power to be emptied
	b.both(powerless)
	want(t, "Get(3) without power", b.get(t, 3), api.ErrDead)
	if k := b.p.Holds(0); k != -1 {
		t.Fatalf("the page 0 is in the frame %d", k)
	}
	want(t, "Get(3) into the empty frame", b.get(t, 3), api.ErrDead)
	b.same(t, "without power")
	b.both(func(g ground) { g.d.Crash(nil) })
	want(t, "Get(3) with power again", b.get(t, 3), api.OK)
	if k := b.p.Holds(3); k != 0 {
		t.Fatalf("the page 3 comes to the frame %d", k)
	}
	want(t, "Get(0) where the hand is now", b.get(t, 0), api.OK)
	if k := b.p.Holds(0); k != 1 {
		t.Fatalf("the page 0 comes to the frame %d", k)
	}
}

func TestAPageThatWasLost(t *testing.T) {
	b := born(t, 3, 2)
	for i := range 2 {
		want(t, "Get", b.get(t, i), api.OK)
		want(t, "Put", b.put(t, i, b.record(t, i, i)), api.OK)
		want(t, "Evict", b.evict(t, i), api.OK)
		b.both(func(g ground) { want(t, "Lose", g.s.Lose(i), api.OK) })
		x, e := b.p.Get(i)
		wantPage(t, "a page that was lost", x, e, page.Empty())
		want(t, "Get", b.get(t, i), api.OK)
	}
	b.same(t, "pages that were lost")
	b.both(func(g ground) { want(t, "half a page that is lost", g.s.Write(2, sample(3, 3)), api.OK) })
	b.both(func(g ground) { want(t, "half a page that is lost", g.d.Lose(3+2*2), api.OK) })
	want(t, "Get of half a page", b.get(t, 2), api.ErrTorn)
}

func TestPeekChangesNothing(t *testing.T) {
	b := full(t, 5, 2)
	b.both(func(g ground) {
		want(t, "Write", g.s.Write(3, sample(5, 5)), api.OK)
		torn(t, g, 4)
	})
	b.record(t, 0, 1)
	b.d.Arm(0)
	b.q.d.Arm(0)
	for range 3 {
		for i, x := range []api.Page{b.q.frames[0].page, b.q.frames[1].page, page.Empty(), sample(5, 5)} {
			got, e := b.p.Peek(i)
			wantPage(t, fmt.Sprintf("Peek(%d)", i), got, e, x)
		}
		got, e := b.p.Peek(4)
		wantNoPage(t, "Peek of a page that is torn", got, e, api.ErrTorn)
		for _, i := range noPages(5) {
			got, e := b.p.Peek(i)
			wantNoPage(t, fmt.Sprintf("Peek(%d)", i), got, e, api.ErrRange)
		}
		b.same(t, "behind Peek")
	}
	b.both(powerless)
	for i := range 2 {
		got, e := b.p.Peek(i)
		wantPage(t, "Peek without power", got, e, b.q.frames[i].page)
	}
	got, e := b.p.Peek(2)
	wantNoPage(t, "Peek without power", got, e, api.ErrDead)
	got, e = b.p.Peek(5)
	wantNoPage(t, "Peek without power", got, e, api.ErrRange)
	b.same(t, "behind Peek without power")
	b.both(func(g ground) { g.d.Crash(nil) })
	b.settle(t, "behind Peek")
}

// P8.3

func TestPutOfPagesThatNoFrameHas(t *testing.T) {
	b := full(t, 4, 3)
	want(t, "Evict", b.evict(t, 1), api.OK)
	want(t, "Drop", b.drop(t, 2), api.OK)
	for _, i := range append(noPages(4), 1, 2, 3) {
		for _, x := range append(wrong(), sample(1, 1)) {
			want(t, fmt.Sprintf("Put(%d, %s)", i, told(x)), b.p.Put(i, x), api.ErrNone)
		}
		want(t, fmt.Sprintf("Drop(%d)", i), b.p.Drop(i), api.ErrNone)
	}
	b.same(t, "behind pages that no frame has")
	b.settle(t, "behind pages that no frame has")
}

func TestPutRefusesPagesThatAreNotRight(t *testing.T) {
	b := born(t, 3, 2)
	want(t, "Get", b.get(t, 0), api.OK)
	want(t, "Get", b.get(t, 2), api.OK)
	for range 2 { // of pages that aren't dirty, and of those that are
		for _, x := range wrong() {
			want(t, "Put of "+told(x), b.p.Put(0, x), api.ErrForm)
			want(t, "Put of "+told(x), b.p.Put(2, x), api.ErrForm)
		}
		b.same(t, "behind pages that aren't right")
		want(t, "Put", b.put(t, 0, b.record(t, 0, 1)), api.OK)
		want(t, "Put", b.put(t, 2, b.record(t, 2, 2)), api.OK)
	}
}

func TestAPageIsDirtySinceTheFirstOne(t *testing.T) {
	ats := []int{0, 1, 127, 128, 129, 4000, 1<<31 - 1}
	for _, first := range ats {
		for _, then := range ats {
			b := born(t, 2, 1)
			want(t, "Get", b.get(t, 1), api.OK)
			for k, at := range []int{first, then, then, first} {
				want(t, "Put", b.put(t, 1, sample(at, k)), api.OK)
				x, e := b.p.Get(1)
				wantPage(t, "what was put", x, e, sample(at, k))
				wantRows(t, fmt.Sprintf("puts at %d, %d", first, then), b.p.Dirty(), api.PageRow{Page: 1, Rec: first})
			}
			// Behind an emptying it is dirty since the next one.
			want(t, "Evict", b.evict(t, 0), api.OK)
			wantRows(t, "an empty frame", b.p.Dirty())
			want(t, "Get", b.get(t, 1), api.OK)
			wantRows(t, "a page that was read again", b.p.Dirty())
			want(t, "Put", b.put(t, 1, sample(then, 9)), api.OK)
			wantRows(t, "a page that was read again, and put", b.p.Dirty(), api.PageRow{Page: 1, Rec: then})
			want(t, "Drop", b.drop(t, 1), api.OK)
			want(t, "Get", b.get(t, 1), api.OK)
			want(t, "Put", b.put(t, 1, sample(first, 10)), api.OK)
			wantRows(t, "a page that was dropped, and put", b.p.Dirty(), api.PageRow{Page: 1, Rec: first})
			b.same(t, "pages at any place")
		}
	}
}

// What is put is dirty, also where it is what was there.
func TestPutOfWhatIsThere(t *testing.T) {
	b := born(t, 1, 1)
	want(t, "Get", b.get(t, 0), api.OK)
	want(t, "Put", b.put(t, 0, page.Empty()), api.OK)
	wantRows(t, "a page as it was", b.p.Dirty(), api.PageRow{Page: 0, Rec: 0})
	want(t, "Evict", b.evict(t, 0), api.OK)
	if n := b.s.Ticket(); n != 2 {
		t.Fatalf("%d writes, not one", n-1)
	}
	b.same(t, "a page as it was")
}

func TestPutWritesNothing(t *testing.T) {
	b := full(t, 3, 2)
	b.both(func(g ground) { g.d.Arm(0) })
	for k := range 5 {
		want(t, "Put", b.put(t, k%2, b.record(t, k%2, k)), api.OK)
	}
	if b.d.Dead() || b.s.Ticket() != 1 || b.l.Next() != 1 {
		t.Fatal("Put writes")
	}
	b.same(t, "behind Put")
	b.both(powerless)
	want(t, "Put without power", b.put(t, 1, sample(5, 5)), api.OK)
	b.same(t, "behind Put without power")
}

func TestEvictRefusesFramesThatAreNotThere(t *testing.T) {
	for frames := 1; frames <= 8; frames++ {
		b := full(t, 8, frames)
		for _, k := range []int{-1, -2, -8, frames, frames + 1, 8, 9, 255, 256, 1 << 32, math.MinInt, math.MinInt + 1, math.MaxInt} {
			want(t, fmt.Sprintf("Evict(%d) of %d frames", k, frames), b.p.Evict(k), api.ErrRange)
		}
		b.same(t, "behind frames that aren't there")
		for k := range frames {
			want(t, "Evict", b.evict(t, k), api.OK)
			want(t, "Evict of an empty frame", b.evict(t, k), api.ErrNone)
			b.same(t, "behind Evict")
		}
	}
}

func TestACleanFrameIsEmptiedWithoutAWrite(t *testing.T) {
	b := born(t, 3, 2)
	b.record(t, 0, 1)
	for _, i := range []int{0, 1} {
		want(t, "Get", b.get(t, i), api.OK)
	}
	b.both(func(g ground) { g.d.Arm(0) })
	want(t, "Evict", b.evict(t, 1), api.OK)
	want(t, "Get", b.get(t, 1), api.OK)
	want(t, "Get where the hand is", b.get(t, 2), api.OK)
	b.same(t, "clean frames")
	if b.d.Dead() || b.s.Ticket() != 1 || b.l.Next() != 1 {
		t.Fatal("a clean frame is written")
	}
	b.both(powerless)
	want(t, "Evict without power", b.evict(t, 0), api.OK)
	b.same(t, "clean frames without power")
}

func TestTheLogGoesAheadOnlyWhereItMust(t *testing.T) {
	for _, c := range []struct {
		what  string
		at    func(safe, unsafe int) int
		flush bool
	}{
		{"a page without records", func(safe, unsafe int) int { return 0 }, false},
		{"a page whose record is safe", func(safe, unsafe int) int { return safe }, false},
		{"a page at the end of what is safe", func(safe, unsafe int) int { return unsafe - 1 }, false},
		{"a page whose record isn't safe", func(safe, unsafe int) int { return unsafe }, true},
		{"a page of a record that isn't there", func(safe, unsafe int) int { return 1<<31 - 1 }, true},
	} {
		for _, get := range []bool{false, true} {
			b := born(t, 2, 1)
			safe := b.record(t, 0, 1).At
			b.both(func(g ground) { want(t, "Flush", g.l.Flush(), api.OK) })
			unsafe := b.record(t, 0, 2).At
			want(t, "Get", b.get(t, 0), api.OK)
			want(t, "Put", b.put(t, 0, sample(unsafe, 3)), api.OK)
			want(t, "Put", b.put(t, 0, sample(c.at(safe, unsafe), 4)), api.OK) // it is the last one's place that counts
			if get {
				want(t, c.what+": Get", b.get(t, 1), api.OK)
			} else {
				want(t, c.what+": Evict", b.evict(t, 0), api.OK)
			}
			if b.l.Safe(unsafe) != c.flush {
				t.Fatalf("%s: the log is flushed: %v", c.what, !c.flush)
			}
			x, e := b.s.Read(0)
			wantPage(t, c.what, x, e, sample(c.at(safe, unsafe), 4))
			b.same(t, c.what)
		}
	}
}

// emptyWith empties a dirty frame with each fuse, and holds the disk against what the document says is done, part by part.
func emptyWith(t *testing.T, sectors, fuse int, get bool) {
	t.Helper()
	what := fmt.Sprintf("%d sectors to be flushed, the fuse %d, by Get: %v", sectors, fuse, get)
	b := born(t, 4, 2)
	want(t, "Get", b.get(t, 2), api.OK)
	want(t, "Get", b.get(t, 1), api.OK)
	first := b.record(t, 2, 0)
	if sectors == 0 {
		b.both(func(g ground) { want(t, "Flush", g.l.Flush(), api.OK) })
	}
	want(t, "Put", b.put(t, 2, first), api.OK)
	for b.l.Room() > 8-sectors { // all of the sectors are begun
		want(t, "Put", b.put(t, 2, b.record(t, 2, b.l.Room())), api.OK)
	}
	last := b.q.frames[0].page
	b.both(func(g ground) { g.d.Arm(fuse) })
	e := api.OK
	if get {
		e = b.get(t, 3)
	} else {
		e = b.evict(t, 0)
	}
	b.same(t, what)
	parts := 8 // of the store's write
	if sectors > 0 {
		parts += sectors + 1
	}
	if fuse < 0 || fuse >= parts {
		want(t, what, e, api.OK)
		return
	}
	want(t, what, e, api.ErrDead)
	if b.p.Holds(2) != 0 || get && b.p.Holds(3) != -1 {
		t.Fatalf("%s: the frame didn't stay as it was", what)
	}
	wantRows(t, what, b.p.Dirty(), api.PageRow{Page: 2, Rec: first.At})
	x, e := b.p.Peek(2)
	wantPage(t, what, x, e, last)
	if b.l.Safe(last.At) != (fuse > sectors || sectors == 0) {
		t.Fatalf("%s: the log is safe: %v", what, b.l.Safe(last.At))
	}
	b.both(func(g ground) { g.d.Crash([]uint8{1}) })
	if get {
		want(t, what+", again", b.get(t, 3), api.OK)
	} else {
		want(t, what+", again", b.evict(t, 0), api.OK)
	}
	b.same(t, what+", again")
	x, e = b.s.Read(2)
	wantPage(t, what+", again", x, e, last)
	b.settle(t, what)
}

func TestThePowerGoesAmidAnEmptying(t *testing.T) {
	for sectors := range 6 {
		for fuse := -1; fuse <= sectors+10; fuse++ {
			emptyWith(t, sectors, fuse, false)
			emptyWith(t, sectors, fuse, true)
		}
	}
}

// Log and store may lie on two disks: the first error is that of the log, and then the store isn't written.
func TestALogWithoutPowerKeepsThePageFromTheStore(t *testing.T) {
	one, other := made(t, 2), made(t, 2)
	p, e := pool.New(one.s, other.l, 1)
	want(t, "New", e, api.OK)
	at, e := other.l.Append(api.Rec{Kind: api.RUpdate, Txn: 1, Before: "a", After: "b"})
	want(t, "Append", e, api.OK)
	p.Get(0)
	want(t, "Put", p.Put(0, sample(at, 1)), api.OK)
	powerless(other)
	want(t, "Evict", p.Evict(0), api.ErrDead)
	_, e = p.Get(1)
	want(t, "Get", e, api.ErrDead)
	if one.s.Ticket() != 1 || one.d.Waiting() != 0 || p.Holds(0) != 0 {
		t.Fatal("a page is written whose record isn't safe")
	}
	want(t, "Put", p.Put(0, sample(0, 2)), api.OK) // it needs no record
	want(t, "Evict", p.Evict(0), api.OK)
	x, e := one.s.Read(0)
	wantPage(t, "the store", x, e, sample(0, 2))
}

// P8.4

func TestDirtyIsByPages(t *testing.T) {
	for _, order := range orders(4) {
		for chosen := range 1 << 4 {
			b := born(t, 6, 5)
			for _, i := range order {
				want(t, "Get", b.get(t, i), api.OK)
			}
			var rows []api.PageRow
			for _, i := range order {
				if chosen>>i&1 == 1 {
					x := b.record(t, i, i)
					want(t, "Put", b.put(t, i, x), api.OK)
					rows = append(rows, api.PageRow{Page: i, Rec: x.At})
				}
			}
			slices.SortFunc(rows, func(a, b api.PageRow) int { return a.Page - b.Page })
			wantRows(t, fmt.Sprintf("pages in the order %v", order), b.p.Dirty(), rows...)
			b.same(t, "dirty pages")
		}
	}
	b := full(t, 8, 8)
	if rows := b.p.Dirty(); len(rows) != 8 || !slices.IsSortedFunc(rows, func(a, b api.PageRow) int { return a.Page - b.Page }) {
		t.Fatalf("eight dirty pages: %v", rows)
	}
}

func TestDropWritesNothing(t *testing.T) {
	for frames := 1; frames <= 8; frames++ {
		for i := range frames {
			b := full(t, 8, frames)
			b.both(func(g ground) { g.d.Arm(0) })
			want(t, "Drop", b.drop(t, i), api.OK)
			want(t, "Drop again", b.drop(t, i), api.ErrNone)
			want(t, "Put behind Drop", b.put(t, i, sample(1, 1)), api.ErrNone)
			want(t, "Evict behind Drop", b.evict(t, i), api.ErrNone)
			b.same(t, "behind Drop")
			if k := b.p.Holds(i); k != -1 {
				t.Fatalf("a page that was dropped is in the frame %d", k)
			}
			for _, row := range b.p.Dirty() {
				if row.Page == i {
					t.Fatal("a page that was dropped is dirty")
				}
			}
			if b.d.Dead() || b.s.Ticket() != 1 || b.l.Next() != 1 {
				t.Fatal("Drop writes")
			}
			b.d.Arm(-1)
			x, e := b.p.Get(i) // what was put is gone
			wantPage(t, "a page that was dropped", x, e, page.Empty())
		}
	}
	b := full(t, 3, 2)
	b.both(powerless)
	want(t, "Drop without power", b.drop(t, 1), api.OK)
	b.same(t, "behind Drop without power")
}

func TestHoldsOfPagesThatTheStoreHasNot(t *testing.T) {
	b := full(t, 5, 5)
	for _, i := range noPages(5) {
		if k := b.p.Holds(i); k != -1 {
			t.Errorf("the page %d is in the frame %d", i, k)
		}
	}
}

func TestWhatIsToldIsNewMemory(t *testing.T) {
	b := full(t, 3, 2)
	rows := b.p.Dirty()
	rows[0], rows[1] = api.PageRow{Page: 7, Rec: 7}, api.PageRow{}
	_ = append(rows, api.PageRow{Page: 6})
	b.same(t, "behind rows that were changed")
	bytes := []byte(strings.Repeat("x", 220))
	text := unsafe.String(&bytes[0], len(bytes)) // whose bytes can be changed, so that it is seen who keeps them
	want(t, "Put", b.put(t, 0, api.Page{At: 3, Data: text}), api.OK)
	b.q.frames[0].page.Data = strings.Clone(text)
	bytes[0], bytes[219] = 'y', 'y'
	b.same(t, "behind a page that was changed")
	var told []string
	for i := range 3 {
		for range 2 {
			x, _ := b.p.Peek(i)
			told = append(told, x.Data)
		}
	}
	for range 2 {
		x, _ := b.p.Get(1)
		told = append(told, x.Data)
	}
	for j, x := range told {
		for _, y := range told[:j] {
			if shares(x, y) {
				t.Fatal("two pages that were told share memory")
			}
		}
	}
}

func TestANilPool(t *testing.T) {
	var p *pool.Pool
	for _, i := range append(noPages(3), 0, 1, 2) {
		x, e := p.Get(i)
		wantNoPage(t, "Get", x, e, api.ErrNil)
		x, e = p.Peek(i)
		wantNoPage(t, "Peek", x, e, api.ErrNil)
		want(t, "Put", p.Put(i, sample(1, 1)), api.ErrNil)
		want(t, "Put", p.Put(i, api.Page{}), api.ErrNil)
		want(t, "Evict", p.Evict(i), api.ErrNil)
		want(t, "Drop", p.Drop(i), api.ErrNil)
		if k := p.Holds(i); k != -1 {
			t.Errorf("Holds(%d): %d", i, k)
		}
	}
	if p.Dirty() != nil || p.Frames() != 0 {
		t.Errorf("Dirty %v, Frames %d", p.Dirty(), p.Frames())
	}
}

func TestPoolsWithoutPagesOrFrames(t *testing.T) {
	g := made(t, 1)
	bare, e := pool.New(&store.Store{}, &wal.Log{}, 2) // a store that New didn't make has no pages
	want(t, "New", e, api.OK)
	deaf, e := pool.New(&store.Store{}, g.l, 8)
	want(t, "New", e, api.OK)
	for _, p := range []*pool.Pool{bare, deaf, {}} {
		for _, i := range append(noPages(0), 0, 1) {
			x, e := p.Get(i)
			wantNoPage(t, "Get", x, e, api.ErrRange)
			if x, e := p.Peek(i); x != (api.Page{}) || e == api.OK {
				t.Errorf("Peek(%d): %s, %d", i, told(x), e)
			}
			want(t, "Put", p.Put(i, sample(1, 1)), api.ErrNone)
			want(t, "Drop", p.Drop(i), api.ErrNone)
			if e := p.Evict(i); e != api.ErrRange && (i < 0 || i >= p.Frames() || e != api.ErrNone) {
				t.Errorf("Evict(%d): %d", i, e)
			}
			if k := p.Holds(i); k != -1 {
				t.Errorf("Holds(%d): %d", i, k)
			}
		}
		wantRows(t, "a pool without pages", p.Dirty())
	}
}

func TestPoolsOfTwoStoresLeaveEachOtherAlone(t *testing.T) {
	b, c := full(t, 3, 2), full(t, 3, 2)
	want(t, "Get", b.get(t, 2), api.OK)
	want(t, "Evict", b.evict(t, 1), api.OK)
	c.same(t, "another pool")
	want(t, "Drop", c.drop(t, 0), api.OK)
	b.same(t, "the first pool")
}
