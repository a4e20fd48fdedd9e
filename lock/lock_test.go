package lock_test

import (
	"fmt"
	"slices"
	"testing"

	"careen/api"
	"careen/lock"
)

// step is a call that may change something: a Take, or, with the mode 0, a Free.
type step struct{ txn, page, mode int }

// steps is each call of some transactions with some pages.
func steps(txns, pages []int) []step {
	var list []step
	for _, txn := range txns {
		list = append(list, step{txn, 0, 0})
		for _, page := range pages {
			list = append(list, step{txn, page, api.Shared}, step{txn, page, api.Alone})
		}
	}
	return list
}

func (b *twins) do(t *testing.T, s step) {
	t.Helper()
	if s.mode == 0 {
		b.free(t, s.txn)
		return
	}
	b.take(t, s.txn, s.page, s.mode)
}

// rows calls f with each row of n steps.
func rows(list []step, n int, f func(row []step)) {
	row := make([]step, n)
	var lay func(k int)
	lay = func(k int) {
		if k == n {
			f(row)
			return
		}
		for _, s := range list {
			row[k] = s
			lay(k + 1)
		}
	}
	lay(0)
}

// orders is each order of the numbers below n.
func orders(n int) [][]int {
	if n == 0 {
		return [][]int{nil}
	}
	var list [][]int
	for _, ahead := range orders(n - 1) {
		for k := range n {
			list = append(list, slices.Insert(slices.Clone(ahead), k, n-1))
		}
	}
	return list
}

// dice is numbers that look thrown, the same ones each time.
type dice uint64

func (d *dice) below(n int) int {
	*d = *d*6364136223846793005 + 1442695040888963407
	return int(uint64(*d) >> 33 % uint64(n))
}

// The chapter's example.

func TestExample(t *testing.T) {
	l := lock.New()
	want(t, "1 takes page 0 shared", l.Take(1, 0, api.Shared), api.OK)
	want(t, "2 too", l.Take(2, 0, api.Shared), api.OK)
	want(t, "1 alone", l.Take(1, 0, api.Alone), api.ErrLock)
	if n := l.Free(2); n != 1 {
		t.Fatalf("2 had %d", n)
	}
	want(t, "1 alone", l.Take(1, 0, api.Alone), api.OK)
	wantMode(t, "behind it", l.Mode(1, 0), api.Alone)
}

// P9.1

func TestNobodyHasAnyAtFirst(t *testing.T) {
	b := born()
	b.same(t, "a new table", append(noTxns(), 1, 2, 4, last-1, last)...)
	for _, txn := range []int{1, 2, last} {
		if n := b.l.Free(txn); n != 0 {
			t.Fatalf("Free(%d) of a new table: %d", txn, n)
		}
		wantPages(t, "a new table", b.l.Pages(txn))
	}
	if lock.New() == nil {
		t.Fatal("New answers nil")
	}
}

func TestTakeGivesJustWhatIsAskedFor(t *testing.T) {
	for _, txn := range []int{1, 2, 1 << 16, last - 1, last} {
		for page := range 8 {
			for _, mode := range []int{api.Shared, api.Alone} {
				b := born()
				want(t, "May", b.l.May(txn, page, mode), api.OK)
				b.same(t, "behind May", 1, 2, last, txn)
				want(t, "Take", b.take(t, txn, page, mode), api.OK)
				b.same(t, "behind Take", 1, 2, 3, 1<<16, last-1, last)
				wantMode(t, "behind Take", b.l.Mode(txn, page), mode)
				wantPages(t, "behind Take", b.l.Pages(txn), page)
			}
		}
	}
}

// Each row of four calls of three transactions with two pages; all is asked behind each call.
func TestEachShortRow(t *testing.T) {
	list := steps([]int{1, 2, last}, []int{0, 7})
	for n := 1; n <= 4; n++ {
		rows(list, n, func(row []step) {
			b := born()
			for _, s := range row {
				b.do(t, s)
			}
			b.same(t, "behind a row", 1, 2, last, 3) // 3 has never any
		})
	}
}

// Each row of six calls of two transactions with one page, so that locks are freed and taken again.
func TestEachRowOfOnePage(t *testing.T) {
	list := steps([]int{1, last}, []int{7})
	rows(list, 6, func(row []step) {
		b := born()
		for _, s := range row {
			b.do(t, s)
		}
		b.same(t, "behind a row", 1, last, 2)
	})
}

func TestLongRows(t *testing.T) {
	for n := range 20 {
		d := dice(n)
		txns := []int{1, 2, 3, 4, 1 << 20, last - 1, last}[:2+n%6]
		b := born()
		for range 2000 {
			s := step{txns[d.below(len(txns))], d.below(8), []int{api.Shared, api.Shared, api.Alone, 0}[d.below(4)]}
			if s.mode == 0 && d.below(3) > 0 { // some pages are to come together ahead of a Free
				continue
			}
			if s.mode != 0 {
				want(t, "May ahead of Take", b.l.May(s.txn, s.page, s.mode), b.p.may(s.txn, s.page, s.mode))
			}
			b.do(t, s)
			b.same(t, "amid a long row", txns...)
		}
	}
}

func TestWhoHasItSharedTakesItAlone(t *testing.T) {
	for page := range 8 {
		b := with(t, hold{1, page, api.Shared})
		want(t, "May", b.l.May(1, page, api.Alone), api.OK)
		want(t, "alone, without others", b.take(t, 1, page, api.Alone), api.OK)
		wantMode(t, "alone, without others", b.l.Mode(1, page), api.Alone)
		want(t, "another one, shared", b.take(t, 2, page, api.Shared), api.ErrLock)
		b.same(t, "alone, without others", 1, 2, 3)

		b = with(t, hold{1, page, api.Shared}, hold{last, page, api.Shared})
		for _, txn := range []int{1, last} {
			want(t, "May", b.l.May(txn, page, api.Alone), api.ErrLock)
			want(t, "alone, with another one", b.take(t, txn, page, api.Alone), api.ErrLock)
			wantMode(t, "alone, with another one", b.l.Mode(txn, page), api.Shared)
			b.same(t, "alone, with another one", 1, 2, last)
		}

		// What others have elsewhere is in nobody's way.
		other := (page + 1) % 8
		b = with(t, hold{1, page, api.Shared}, hold{2, other, api.Alone}, hold{1, (page + 2) % 8, api.Shared}, hold{2, (page + 2) % 8, api.Shared})
		want(t, "alone, others elsewhere", b.take(t, 1, page, api.Alone), api.OK)
		b.same(t, "alone, others elsewhere", 1, 2, 3)
	}
}

func TestWhoHasItAloneHasItAloneStill(t *testing.T) {
	for page := range 8 {
		for _, first := range [][]int{{api.Alone}, {api.Shared, api.Alone}} {
			b := born()
			for _, mode := range first {
				want(t, "Take", b.take(t, 1, page, mode), api.OK)
			}
			for range 3 {
				want(t, "May", b.l.May(1, page, api.Shared), api.OK)
				want(t, "shared, behind alone", b.take(t, 1, page, api.Shared), api.OK)
				wantMode(t, "shared, behind alone", b.l.Mode(1, page), api.Alone)
				want(t, "another one", b.take(t, 2, page, api.Shared), api.ErrLock)
				b.same(t, "shared, behind alone", 1, 2)
			}
		}
	}
}

func TestWhatIsTakenTwiceIsHeldOnce(t *testing.T) {
	for _, mode := range []int{api.Shared, api.Alone} {
		b := born()
		for range 3 {
			want(t, "Take", b.take(t, 1, 0, mode), api.OK)
			want(t, "Take", b.take(t, 1, 7, mode), api.OK)
			wantMode(t, "taken twice", b.l.Mode(1, 0), mode)
			wantPages(t, "taken twice", b.l.Pages(1), 0, 7)
			b.same(t, "taken twice", 1, 2)
		}
		if n := b.free(t, 1); n != 2 {
			t.Fatalf("two pages, each taken three times: %d are freed", n)
		}
		b.same(t, "freed once", 1, 2)
	}
}

// mixed is twins with pages shared, alone, and free.
func mixed(t *testing.T) *twins {
	t.Helper()
	return with(t, hold{1, 0, api.Alone}, hold{2, 1, api.Shared}, hold{1, 1, api.Shared}, hold{2, 7, api.Shared}, hold{last, 5, api.Alone}, hold{last, 1, api.Shared})
}

func TestMayChangesNothing(t *testing.T) {
	b := mixed(t)
	for _, s := range steps([]int{1, 2, 3, last, 0, -1, 1 << 31}, []int{-1, 0, 1, 5, 6, 7, 8}) {
		for range 3 {
			want(t, "May", b.l.May(s.txn, s.page, s.mode), b.p.may(s.txn, s.page, s.mode))
		}
		b.same(t, fmt.Sprintf("behind May(%d, %d, %d)", s.txn, s.page, s.mode), 1, 2, 3, last)
	}
}

func TestARefusedTakeChangesNothing(t *testing.T) {
	refused := 0
	for _, s := range steps([]int{1, 2, 3, last, 0, -1, 1 << 31}, []int{-1, 0, 1, 5, 6, 7, 8}) {
		b := mixed(t)
		if s.mode == 0 || b.p.may(s.txn, s.page, s.mode) == api.OK {
			continue
		}
		refused++
		what := fmt.Sprintf("behind the refused Take(%d, %d, %d)", s.txn, s.page, s.mode)
		for range 3 {
			b.take(t, s.txn, s.page, s.mode)
			b.same(t, what, 1, 2, 3, last)
		}
		for _, txn := range []int{3, 1, last, 2} { // nor does it come to light later
			b.free(t, txn)
			b.same(t, what+", and a Free", 1, 2, 3, last)
		}
	}
	if refused < 50 {
		t.Fatalf("only %d were refused", refused)
	}
}

func TestWrongNumbersAreErrArg(t *testing.T) {
	b := mixed(t)
	refuse := func(txn, page, mode int) {
		t.Helper()
		what := fmt.Sprintf("(%d, %d, %d)", txn, page, mode)
		want(t, "May"+what, b.l.May(txn, page, mode), api.ErrArg)
		want(t, "Take"+what, b.l.Take(txn, page, mode), api.ErrArg)
	}
	// The right pages are ones that somebody has alone, or shared, too: ErrArg comes ahead of ErrLock.
	for _, txn := range noTxns() {
		for _, page := range append(noPages(), 0, 1, 5, 6, 7) {
			for _, mode := range append(noModes(), api.Shared, api.Alone) {
				refuse(txn, page, mode)
			}
		}
	}
	for _, txn := range []int{1, 2, last} {
		for _, page := range noPages() {
			for _, mode := range append(noModes(), api.Shared, api.Alone) {
				refuse(txn, page, mode)
			}
		}
		for _, page := range []int{0, 1, 5, 6, 7} {
			for _, mode := range noModes() {
				refuse(txn, page, mode)
			}
		}
	}
	b.same(t, "behind wrong numbers", append(noTxns(), 1, 2, 3, last)...)
}

// P9.2

func TestFreeTakesAll(t *testing.T) {
	for held := range 1 << 8 { // the pages that 1 has
		b := born()
		n := 0
		for page := range 8 {
			if held>>page&1 != 0 {
				want(t, "Take", b.take(t, 1, page, 1+page%2), api.OK)
				n++
			}
			if page%4 == 0 {
				want(t, "Take", b.take(t, 2, page, api.Shared), api.OK)
			}
		}
		for range 2 {
			if got := b.free(t, 1); got != n {
				t.Fatalf("the pages %08b: Free answers %d, not %d", held, got, n)
			}
			b.same(t, "behind Free", 1, 2, 3)
			wantPages(t, "behind Free", b.l.Pages(1))
			n = 0 // the second time it has none
		}
		for page := range 8 { // all are to be had again, but for those that another one has
			e := api.OK
			if page%4 == 0 {
				e = api.ErrLock
			}
			want(t, "Take behind Free", b.take(t, 3, page, api.Alone), e)
		}
	}
}

func TestOfTwoThatShareOneIsFreed(t *testing.T) {
	for _, gone := range []int{1, last} {
		stays := 1 + last - gone
		b := with(t, hold{1, 7, api.Shared}, hold{last, 7, api.Shared})
		if n := b.free(t, gone); n != 1 {
			t.Fatalf("Free(%d): %d", gone, n)
		}
		wantMode(t, "the other one", b.l.Mode(stays, 7), api.Shared)
		wantMode(t, "the freed one", b.l.Mode(gone, 7), 0)
		want(t, "the freed one alone", b.take(t, gone, 7, api.Alone), api.ErrLock)
		want(t, "the other one alone", b.take(t, stays, 7, api.Alone), api.OK)
		want(t, "the freed one shared", b.take(t, gone, 7, api.Shared), api.ErrLock)
		b.same(t, "behind it", 1, 2, last)
	}
}

// Who has a page alone is freed, and leaves nothing of that to those that share the page later.
func TestAloneEndsWithFree(t *testing.T) {
	for page := range 8 {
		b := with(t, hold{1, page, api.Alone})
		b.free(t, 1)
		for _, txn := range []int{2, 1, 3} {
			want(t, "shared", b.take(t, txn, page, api.Shared), api.OK)
			wantMode(t, "shared", b.l.Mode(txn, page), api.Shared)
			b.same(t, "shared behind alone", 1, 2, 3)
		}
	}
}

func TestFreeOfOneThatHasNone(t *testing.T) {
	b := mixed(t)
	for _, txn := range append(noTxns(), 3, 4, last-1, 1<<20) {
		if n := b.l.Free(txn); n != 0 {
			t.Fatalf("Free(%d): %d", txn, n)
		}
		b.same(t, fmt.Sprintf("behind Free(%d)", txn), 1, 2, 3, last, txn)
	}
}

func TestModeAndPagesOfWrongNumbers(t *testing.T) {
	b := mixed(t)
	pages := append(noPages(), 0, 1, 2, 3, 4, 5, 6, 7)
	for _, txn := range noTxns() {
		wantPages(t, fmt.Sprintf("Pages(%d)", txn), b.l.Pages(txn))
		for _, page := range pages {
			wantMode(t, fmt.Sprintf("Mode(%d, %d)", txn, page), b.l.Mode(txn, page), 0)
		}
	}
	for _, txn := range []int{1, 2, 3, last} {
		for _, page := range noPages() {
			wantMode(t, fmt.Sprintf("Mode(%d, %d)", txn, page), b.l.Mode(txn, page), 0)
		}
	}
	b.same(t, "behind wrong numbers", 1, 2, 3, last)
}

func TestPagesRise(t *testing.T) {
	for n, order := range orders(8) {
		if n%7 != 0 && n%11 != 0 {
			continue
		}
		l := lock.New()
		for k, page := range order {
			want(t, "Take", l.Take(1, page, 1+(k+n)%2), api.OK)
			if k == 3 {
				list := slices.Clone(order[:4])
				slices.Sort(list)
				wantPages(t, fmt.Sprintf("taken in the order %v", order[:4]), l.Pages(1), list...)
			}
		}
		wantPages(t, fmt.Sprintf("taken in the order %v", order), l.Pages(1), 0, 1, 2, 3, 4, 5, 6, 7)
	}
}

func TestPagesAreNewMemory(t *testing.T) {
	b := mixed(t)
	for _, txn := range []int{1, 2, last} {
		list, other := b.l.Pages(txn), b.l.Pages(txn)
		keep := slices.Clone(list)
		spare := list[:cap(list)]
		for k := range spare {
			spare[k] = -7
		}
		wantPages(t, "another answer", other, keep...)
		b.same(t, "behind a change of what Pages answered", 1, 2, 3, last)
	}
}

func TestPagesAnsweredEarlierStay(t *testing.T) {
	b := mixed(t)
	list := b.l.Pages(1)
	b.take(t, 1, 6, api.Alone)
	b.free(t, 1)
	b.take(t, 1, 3, api.Shared)
	wantPages(t, "answered earlier", list, 0, 1)
}

// Behind a copy, calls of either are nothing to the other one.
func TestACopyGoesItsOwnWay(t *testing.T) {
	txns := []int{1, 2, last}
	list := steps(txns, []int{0, 7})
	rows(list, 2, func(row []step) {
		b := born()
		for _, s := range row {
			b.do(t, s)
		}
		for _, s := range list {
			x := b.copied()
			y := x.copied()
			x.do(t, s)
			x.same(t, "a copy that was changed", txns...)
			y.same(t, "the copy of a copy that was changed", txns...)
			b.same(t, "whose copy was changed", txns...)
			z := y.copied()
			y.do(t, s)
			y.same(t, "a copy whose own one stays", txns...)
			z.same(t, "a copy, the other one changed", txns...)
		}
	})
}

func TestManyCopiesAtATime(t *testing.T) {
	txns := []int{1, 2, 3, last}
	list := steps(txns, []int{0, 1, 2, 3, 4, 5, 6, 7})
	d := dice(9)
	all := []*twins{mixed(t)}
	for range 3000 {
		b := all[d.below(len(all))]
		if d.below(100) == 0 && len(all) < 12 {
			all = append(all, b.copied())
			continue
		}
		b.do(t, list[d.below(len(list))])
		for _, x := range all {
			x.same(t, "among copies", txns...)
		}
	}
	if len(all) < 12 {
		t.Fatalf("only %d copies", len(all))
	}
}

// An empty table's copy is another one too.
func TestACopyOfAnEmptyTable(t *testing.T) {
	b := born()
	c := b.copied()
	if c.l == nil || c.l == b.l {
		t.Fatal("a copy is nil, or the same")
	}
	want(t, "Take", b.take(t, 1, 0, api.Alone), api.OK)
	c.same(t, "the copy", 1, 2)
	want(t, "Take of the copy", c.take(t, 2, 0, api.Alone), api.OK)
	b.same(t, "the first one", 1, 2)
}

func TestTablesKnowNothingOfEachOther(t *testing.T) {
	a, b := mixed(t), born()
	b.same(t, "another table", 1, 2, 3, last)
	want(t, "Take", b.take(t, 9, 0, api.Alone), api.OK)
	b.free(t, 1)
	a.same(t, "the first table", 1, 2, 3, 9, last)
}

func TestOfANilTable(t *testing.T) {
	var l *lock.Table
	for _, txn := range append(noTxns(), 1, 2, last) {
		for _, page := range append(noPages(), 0, 7) {
			for _, mode := range append(noModes(), api.Shared, api.Alone) {
				want(t, "May of nil", l.May(txn, page, mode), api.ErrNil)
				want(t, "Take of nil", l.Take(txn, page, mode), api.ErrNil)
			}
			wantMode(t, "nil", l.Mode(txn, page), 0)
		}
		if n := l.Free(txn); n != 0 {
			t.Fatalf("Free of nil: %d", n)
		}
		wantPages(t, "nil", l.Pages(txn))
	}
	if l.Copy() != nil {
		t.Fatal("a copy of nil")
	}
}

// A table that New didn't make has none either, and panics at nothing.
func TestOfATableThatNewDidNotMake(t *testing.T) {
	for _, l := range []*lock.Table{{}, (&lock.Table{}).Copy(), new(lock.Table)} {
		b := &twins{l: l}
		b.same(t, "an empty table", append(noTxns(), 1, 2, last)...)
		b.free(t, 1)
		c := b.copied()
		for _, s := range steps([]int{1, 2, last}, []int{0, 3, 7}) {
			if s.mode != 0 {
				b.do(t, s)
				b.same(t, "a table that New didn't make", 1, 2, last)
			}
		}
		c.same(t, "its copy", 1, 2, last)
	}
}

// P9.3

func TestWhoHasItAloneHasItAloneOfAll(t *testing.T) {
	txns := []int{1, 2, 3, 4, 5, 1 << 16, last - 1, last}
	for page := range 8 {
		for _, txn := range txns {
			for _, first := range [][]int{{api.Alone}, {api.Shared, api.Alone}, {api.Alone, api.Shared}} {
				b := with(t, hold{2, (page + 3) % 8, api.Shared})
				for _, mode := range first {
					want(t, "Take", b.take(t, txn, page, mode), api.OK)
				}
				for _, other := range txns {
					e := api.ErrLock
					if other == txn {
						e = api.OK
					}
					for _, mode := range []int{api.Shared, api.Alone} {
						want(t, "May of a page that somebody has alone", b.l.May(other, page, mode), e)
						want(t, "Take of a page that somebody has alone", b.take(t, other, page, mode), e)
					}
				}
				b.same(t, "alone of all", txns...)
			}
		}
	}
}

func TestManyShareAPage(t *testing.T) {
	const n = 1 << 16
	l := lock.New()
	txn := func(k int) int { return 1 + k*((last-1)/(n-1)) }
	for k := range n {
		want(t, "shared", l.Take(txn(k), 7, api.Shared), api.OK)
		if k > 0 {
			want(t, "alone, where others share", l.Take(txn(k), 7, api.Alone), api.ErrLock)
		}
	}
	c := l.Copy()
	for k := range n - 1 {
		wantMode(t, "shared", l.Mode(txn(k), 7), api.Shared)
		want(t, "the last one alone", l.Take(txn(n-1), 7, api.Alone), api.ErrLock)
		if m := l.Free(txn(k)); m != 1 {
			t.Fatalf("Free: %d", m)
		}
	}
	want(t, "the last one alone", l.Take(txn(n-1), 7, api.Alone), api.OK)
	wantMode(t, "in the copy", c.Mode(txn(n-1), 7), api.Shared)
	want(t, "in the copy", c.May(txn(n-1), 7, api.Alone), api.ErrLock)
}

// In each state that calls can bring about: who has a page alone is the only one that has it, and Pages and Mode say the same.
func TestModesFitTogether(t *testing.T) {
	txns := []int{1, 2, 3, 4, last}
	d := dice(3)
	l := lock.New()
	seen := 0
	for range 20000 {
		txn, page := txns[d.below(5)], d.below(8)
		if d.below(9) == 0 {
			l.Free(txn)
		} else {
			l.Take(txn, page, 1+d.below(2))
		}
		for page := range 8 {
			alone, any := 0, 0
			for _, txn := range txns {
				mode := l.Mode(txn, page)
				if slices.Contains(l.Pages(txn), page) != (mode != 0) {
					t.Fatalf("%d has the page %d in the mode %d, and Pages says otherwise", txn, page, mode)
				}
				any += min(mode, 1)
				alone += mode / api.Alone
			}
			if alone > 0 && any > 1 {
				t.Fatalf("the page %d: alone %d, in all %d", page, alone, any)
			}
			seen = max(seen, any)
		}
	}
	if seen < 3 {
		t.Fatalf("never more than %d share a page", seen)
	}
}
