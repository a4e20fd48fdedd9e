package chain_test

import (
	"fmt"
	"math"
	"slices"
	"testing"

	"careen/api"
	"careen/chain"
	"careen/record"
)

// up and un are records at places of their own; what they change is told by the place, so that no two are alike.

func up(txn, at, prev int) api.Entry {
	return api.Entry{At: at, R: api.Rec{Kind: api.RUpdate, Txn: txn, Prev: prev, Page: at & 7, Off: at & 127, Before: fmt.Sprint("b", at), After: fmt.Sprint("a", at)}}
}

func un(txn, at, prev, next int) api.Entry {
	return api.Entry{At: at, R: api.Rec{Kind: api.RUndo, Txn: txn, Prev: prev, Next: next, Page: at & 7, Off: at & 127, After: fmt.Sprint("u", at)}}
}

// undoes is what undoes an update that up made.
func undoes(txn, at, prev int) api.Rec {
	return api.Rec{Kind: api.RUndo, Txn: txn, Page: at & 7, Off: at & 127, After: fmt.Sprint("b", at), Next: prev}
}

// others is records that no chain of 1 has, all at one place.
func others(at, prev int) []api.Entry {
	list := []api.Entry{up(2, at, prev), un(2, at, prev, prev), up(0, at, prev), up(-1, at, prev), un(1<<32+1, at, prev, prev)}
	for _, kind := range []int{api.RCommit, api.REnd, api.RBegin, api.RTables, 0, -1, 7, 8, 257, 258, 1<<32 + 1, 1<<32 + 2, math.MinInt, math.MaxInt} {
		x := up(1, at, prev)
		x.R.Kind = kind
		list = append(list, x)
	}
	return list
}

// step is one record more of a history.
type step struct {
	name string
	do   func(h *hist) bool // false, where there is no such record
}

func steps() []step {
	written := func(r api.Rec) func(h *hist) bool {
		return func(h *hist) bool { h.write(r); return true }
	}
	return []step{
		{"update of 1", func(h *hist) bool { h.update(1); return true }},
		{"undo of 1", func(h *hist) bool { return h.undo(1) }},
		{"update of 2", func(h *hist) bool { h.update(2); return true }},
		{"undo of 2", func(h *hist) bool { return h.undo(2) }},
		{"begin", written(api.Rec{Kind: api.RBegin})},
		{"commit of 3", written(api.Rec{Kind: api.RCommit, Txn: 3})},
	}
}

// histories calls f with each history of n of the first k steps.
func histories(n, k int, f func(h *hist)) {
	var lay func(h *hist, n int)
	lay = func(h *hist, n int) {
		if n == 0 {
			f(h)
			return
		}
		for _, s := range steps()[:k] {
			c := h.copy()
			if s.do(c) {
				lay(c, n-1)
			}
		}
	}
	lay(newHist(), n)
}

// dice is numbers that look thrown, the same ones each time.
type dice uint64

func (d *dice) below(n int) int {
	*d = *d*6364136223846793005 + 1442695040888963407
	return int(uint64(*d) >> 33 % uint64(n))
}

// The chapter's example.

func TestExample(t *testing.T) {
	list := []api.Entry{
		{At: 128, R: api.Rec{Kind: api.RUpdate, Txn: 1, Page: 2, Off: 3, Before: "x", After: "y"}},
		{At: 150, R: api.Rec{Kind: api.RUpdate, Txn: 1, Prev: 128, Page: 4, Off: 5, Before: "v", After: "w"}},
		{At: 170, R: api.Rec{Kind: api.RUndo, Txn: 1, Prev: 150, Next: 128, Page: 4, Off: 5, After: "v"}},
	}
	if n, e := chain.Left(list, 1, 170); n != 1 || e != api.OK {
		t.Fatalf("Left: %d, %d", n, e)
	}
	undos, e := chain.Undo(list, 1, 170, 0)
	want := []api.Rec{{Kind: api.RUndo, Txn: 1, Page: 2, Off: 3, After: "x", Next: 0}}
	if e != api.OK || !slices.EqualFunc(undos, want, record.Same) {
		t.Fatalf("Undo: %+v, %d", undos, e)
	}
	places, e := chain.Chain(list, 1, 170)
	if e != api.OK || !slices.Equal(places, []int{170, 150, 128}) {
		t.Fatalf("Chain: %v, %d", places, e)
	}
}

// All promises, over many lists.

func TestEachShortHistory(t *testing.T) {
	for n := range 6 {
		histories(n, 6, func(h *hist) {
			for _, txn := range []int{1, 2} {
				h.knows(t, "a history", txn)
			}
			alikeAll(t, h.list, 1, 2, 3)
		})
	}
}

func TestEachHistoryOfOneTransaction(t *testing.T) {
	histories(10, 2, func(h *hist) { h.knows(t, "a history of one", 1) })
}

// Each list of three records of 1 and 2, right ones and wrong ones, in which Prev and Next are each place of the list and each next to it.
func TestEachListOfThree(t *testing.T) {
	places := []int{3, 5, 8}
	prevs := []int{-1, 0, 2, 3, 4, 5, 6, 8}
	make1 := func(at int) []api.Entry {
		list := others(at, 0)[:1]
		list = append(list, api.Entry{At: at, R: api.Rec{Kind: api.RCommit, Txn: 1}})
		for _, prev := range prevs {
			list = append(list, up(1, at, prev))
			for _, next := range prevs {
				list = append(list, un(1, at, prev, next))
			}
		}
		return list
	}
	lists := [][]api.Entry{make1(3), make1(5), make1(8)}
	for _, a := range lists[0] {
		for _, b := range lists[1] {
			for i, c := range lists[2] {
				if a.R.Kind == api.RUndo && b.R.Kind == api.RUndo && i%5 != (a.R.Next+b.R.Next+10)%5 {
					continue // a fifth of these is enough
				}
				list := []api.Entry{a, b, c}
				for _, last := range places {
					alike(t, list, 1, last, 0)
				}
				alike(t, list, 1, 8, 3)
				alike(t, list, 1, 8, 5)
				alike(t, list, 1, 8, 4)
			}
		}
	}
}

// thrownList is a list as the dice fall: mostly right records, some wrong ones, places below 0 too.
func thrownList(d *dice, n int) []api.Entry {
	var list []api.Entry
	at := d.below(12) - 12
	for range n {
		at += 1 + d.below(3)
		// Mostly 0, or a place that the list has.
		near := func() int {
			switch {
			case d.below(12) == 0:
				return at - 3 + d.below(6)
			case len(list) == 0 || d.below(8) == 0:
				return min(0, at-1)
			}
			return list[max(0, len(list)-1-d.below(4))].At
		}
		x := up(1+d.below(20)/17, at, near())
		if d.below(5) < 2 {
			x = un(x.R.Txn, at, near(), near())
		}
		if d.below(25) == 0 {
			x.R.Kind = d.below(9) - 1
		}
		list = append(list, x)
	}
	if d.below(40) == 0 {
		i := d.below(n)
		list[i].At += 1 - d.below(8)
	}
	return list
}

func TestThrownLists(t *testing.T) {
	met := map[string]int{}
	for n := range 4000 {
		d := dice(n)
		list := thrownList(&d, 1+n%20)
		for k := range list {
			for range 4 {
				stop := list[d.below(len(list))].At - 1 + d.below(3)
				x := alike(t, list, 1, list[k].At, stop)
				met[fmt.Sprint("Chain ", x.ec)]++
				met[fmt.Sprint("Left ", x.el)]++
				met[fmt.Sprint("Undo ", x.eu)]++
				if len(x.places) > 3 && x.left > 1 && len(x.undos) > 0 && len(x.undos) < x.left {
					met["all of it"]++
				}
			}
		}
	}
	for _, s := range []string{"Chain 0", "Chain 1", "Chain 3", "Chain 7", "Left 0", "Left 1", "Left 3", "Left 7", "Undo 0", "Undo 1", "Undo 3", "Undo 7", "all of it"} {
		if met[s] < 200 {
			t.Errorf("%s was met %d times only", s, met[s])
		}
	}
}

// P11.1

// five is a list of five records in which each call goes through all that 1 has: 10, 30, 40 and 50.
func five() []api.Entry {
	return []api.Entry{up(1, 10, 0), up(2, 20, 0), up(1, 30, 10), up(1, 40, 30), up(1, 50, 40)}
}

// entry is the entry of a list at a place that it has.
func entry(list []api.Entry, at int) *api.Entry {
	return &list[slices.IndexFunc(list, func(x api.Entry) bool { return x.At == at })]
}

func TestPlacesMustRise(t *testing.T) {
	for i := range 5 {
		for k := range 5 {
			for _, d := range []int{-1, 0, 1} {
				list := five()
				list[i].At = list[k].At + d
				e := api.OK
				if !rises(list) {
					e = api.ErrForm
				}
				if k < i && d <= 0 && e == api.OK || k > i && d >= 0 && e == api.OK {
					t.Fatalf("the test's own list rises:%s", shown(list))
				}
				for _, last := range []int{0, 10, 20, 30, 50, 55, -1, math.MaxInt} {
					got := alike(t, list, 1, last, 0)
					if e == api.ErrForm && (got.ec != e || got.el != e || got.eu != e) {
						t.Fatalf("last %d of%s\n%+v", last, shown(list), got)
					}
				}
			}
		}
	}
	for _, order := range [][]int{{1, 0, 2, 3, 4}, {0, 2, 1, 3, 4}, {0, 1, 2, 4, 3}, {4, 3, 2, 1, 0}, {1, 2, 3, 4, 0}, {4, 0, 1, 2, 3}} {
		var list []api.Entry
		for _, i := range order {
			list = append(list, five()[i])
		}
		for _, stop := range []int{0, 10, 50, 51, math.MaxInt} { // ErrForm comes also where no place is come to
			for _, last := range []int{0, 10, 50, 25} {
				wantErrs(t, "places that fall", list, 1, last, stop, api.ErrForm, api.ErrForm, api.ErrForm)
			}
		}
	}
	for i := range 5 { // the same entry twice
		list := slices.Insert(five(), i, five()[i])
		wantErr(t, "an entry twice", list, 1, 50, api.ErrForm)
		wantErr(t, "an entry twice", list, 1, 0, api.ErrForm)
	}
}

// The least and the greatest places: their difference is no number.
func TestPlacesOfAllSizes(t *testing.T) {
	list := []api.Entry{up(2, math.MinInt, 0), up(1, math.MinInt+1, math.MinInt), up(1, -1, math.MinInt+1), up(1, 1, 0), up(1, 1<<32+1, 1), up(1, math.MaxInt, 1<<32+1)}
	wantTold(t, "to the greatest place", list, 1, math.MaxInt, 0, []int{math.MaxInt, 1<<32 + 1, 1}, 3, undoes(1, math.MaxInt, 1<<32+1), undoes(1, 1<<32+1, 1), undoes(1, 1, 0))
	wantTold(t, "a stop at it", list, 1, math.MaxInt, math.MaxInt, []int{math.MaxInt, 1<<32 + 1, 1}, 3)
	wantTold(t, "a stop below it", list, 1, math.MaxInt, math.MaxInt-1, []int{math.MaxInt, 1<<32 + 1, 1}, 3, undoes(1, math.MaxInt, 1<<32+1))
	wantErrs(t, "down to the least place", list, 1, -1, math.MinInt, api.ErrArg, api.ErrArg, api.OK) // Prev of it is 0
	wantErrs(t, "the least place", list, 2, math.MinInt, math.MinInt, api.ErrArg, api.ErrArg, api.OK)
	wantErrs(t, "no record at the least place", list[1:], 1, math.MinInt, math.MinInt, api.ErrNone, api.ErrNone, api.OK)
	wantErrs(t, "no record at the least place", list[1:], 1, -1, math.MinInt, api.ErrNone, api.ErrNone, api.OK)
	alikeAll(t, list, 1, 2)
	for i := range list {
		fall := slices.Insert(slices.Clone(list[:i]), 0, list[i])
		if i > 0 {
			wantErr(t, "it falls", fall, 1, 0, api.ErrForm)
		}
	}
	wantErr(t, "from the greatest to the least", []api.Entry{list[5], list[0]}, 1, 0, api.ErrForm)
	wantErr(t, "from the least to the greatest", []api.Entry{list[0], list[5]}, 1, 0, api.OK)
}

func TestNoRecordAtLast(t *testing.T) {
	lists := [][]api.Entry{nil, {}, five()[:1], five()[:2], five()}
	for _, list := range lists {
		for _, last := range append(wild(), 5, 9, 11, 15, 25, 29, 31, 45, 49, 51, 60, -10, -50) {
			wantErrs(t, "no record at last", list, 1, last, last-1, api.ErrNone, api.ErrNone, undoErr(last, last-1, api.ErrNone))
		}
	}
}

// undoErr is the error of Undo, where last itself brings e: none, if last isn't above stop (a stop below the least number is the greatest one).
func undoErr(last, stop int, e api.Errno) api.Errno {
	if last <= stop {
		return api.OK
	}
	return e
}

func TestNoRecordAtPrev(t *testing.T) {
	for i, at := range []int{10, 30, 40, 50} {
		for _, gone := range []int{at - 1, at - 5, -1, -50, math.MinInt} {
			list := five()
			entry(list, at).R.Prev = gone
			for _, last := range []int{10, 30, 40, 50} {
				e := api.OK
				if last >= at {
					e = api.ErrNone
				}
				wantErrs(t, fmt.Sprint("the link ", i), list, 1, last, math.MinInt, e, e, undoErr(gone, math.MinInt, e))
				wantErrs(t, fmt.Sprint("the link ", i), list, 1, last, gone, e, e, api.OK)
			}
		}
	}
	for _, x := range []api.Entry{up(1, 30, 10), up(2, 10, 0)} { // an entry that isn't there
		list := slices.DeleteFunc(five(), func(y api.Entry) bool { return y.At == x.At })
		wantErr(t, "an entry that isn't there", list, 1, 50, api.ErrNone)
		wantErr(t, "an entry that isn't there", list, 1, x.At, api.ErrNone)
	}
}

// Chain goes by Prev alone, Left and Undo go by Next of an undo: a way that isn't gone may lead to where nothing is.
func TestNoRecordOnOneWay(t *testing.T) {
	for _, gone := range []int{9, 11, 25, 49, -1, math.MinInt + 1} {
		list := append(five(), un(1, 60, 50, gone))
		wantErrs(t, "no record at Next", list, 1, 60, math.MinInt, api.OK, api.ErrNone, api.ErrNone)
		list = append(five(), un(1, 60, gone, 40))
		wantErrs(t, "no record at Prev", list, 1, 60, 0, api.ErrNone, api.OK, api.OK)
		list = append(five(), un(1, 60, gone, 0))
		wantErrs(t, "no record at Prev, Next 0", list, 1, 60, 0, api.ErrNone, api.OK, api.OK)
		list = append(five(), un(1, 60, 0, gone))
		wantErrs(t, "no record at Next, Prev 0", list, 1, 60, math.MinInt, api.OK, api.ErrNone, api.ErrNone)
	}
}

func TestAnotherRecordInTheWay(t *testing.T) {
	for i, at := range []int{10, 30, 40, 50} {
		prev := []int{0, 10, 30, 40}[i]
		for _, x := range others(at, prev) {
			list := five()
			*entry(list, at) = x
			for _, last := range []int{10, 30, 40, 50} {
				e := api.OK
				if last >= at {
					e = api.ErrArg
				}
				wantErrs(t, "another record", list, 1, last, 0, e, e, e)
				wantErrs(t, "another record, at stop", list, 1, last, at, e, e, api.OK)
				wantErrs(t, "another record, above stop", list, 1, last, at-1, e, e, e)
			}
		}
	}
	// On one of an undo's ways alone.
	for _, x := range others(20, 10) {
		list := []api.Entry{up(1, 10, 0), x, un(1, 30, 20, 10)}
		wantErrs(t, "at Prev", list, 1, 30, 0, api.ErrArg, api.OK, api.OK)
		list[2] = un(1, 30, 10, 20)
		wantErrs(t, "at Next", list, 1, 30, 0, api.OK, api.ErrArg, api.ErrArg)
	}
}

func TestAnotherTransaction(t *testing.T) {
	txns := append(wild(), 0, 2, 3)
	for _, txn := range txns { // any number is a transaction's, if its records have it
		list := []api.Entry{up(txn, 10, 0), up(txn, 20, 10), un(txn, 30, 20, 10)}
		wantTold(t, "of any number", list, txn, 30, 0, []int{30, 20, 10}, 1, undoes(txn, 10, 0))
		for _, other := range append(txns, 4) {
			if other == txn {
				continue
			}
			for _, last := range []int{10, 20, 30} {
				wantErr(t, "another transaction", list, other, last, api.ErrArg)
			}
			wantErr(t, "another transaction, no record", list, other, 15, api.ErrNone)
			wantTold(t, "another transaction, last 0", list, other, 0, 0, nil, 0)
		}
	}
}

func TestPrevMustLeadBack(t *testing.T) {
	for _, at := range []int{10, 30, 40, 50} {
		for _, prev := range []int{at, at + 1, at + 10, 1 << 40, math.MaxInt} { // 10 more is mostly the place of a record, too
			list := five()
			entry(list, at).R.Prev = prev
			for _, last := range []int{10, 30, 40, 50} {
				e := api.OK
				if last >= at {
					e = api.ErrArg
				}
				wantErrs(t, "Prev leads on", list, 1, last, 0, e, e, e)
				wantErrs(t, "Prev leads on, at stop", list, 1, last, at, e, e, api.OK)
			}
		}
	}
}

// Of an undo both ways must lead back, whichever one is gone.
func TestBothWaysOfAnUndoMustLeadBack(t *testing.T) {
	for _, wrong := range []int{60, 61, 70, math.MaxInt} {
		for _, right := range []int{0, 10, 50, 59, 55, -1} { // also where the right one leads to no record
			for _, x := range []api.Entry{un(1, 60, wrong, right), un(1, 60, right, wrong), un(1, 60, wrong, wrong)} {
				list := append(five(), x, up(1, 61, 60), up(1, 70, 0))
				wantErr(t, "a way leads on", list, 1, 60, api.ErrArg)
				wantErr(t, "a way leads on", list, 1, 61, api.ErrArg)
				wantErr(t, "none of it is come to", list, 1, 50, api.OK)
				wantErrs(t, "at stop", list, 1, 61, 60, api.ErrArg, api.ErrArg, api.OK)
				wantErrs(t, "at stop", list, 1, 60, 60, api.ErrArg, api.ErrArg, api.OK)
				wantErrs(t, "above stop", list, 1, 60, 59, api.ErrArg, api.ErrArg, api.ErrArg)
			}
		}
	}
	for _, x := range []api.Entry{un(1, 60, 59, 0), un(1, 60, 0, 59), un(1, 60, 59, 59)} { // one less is right
		list := append(five(), up(1, 59, 0), x)
		wantErr(t, "both ways lead back", list, 1, 60, api.OK)
	}
}

// Next of an update, and what else its kind hasn't, is looked at by nobody.
func TestAnUpdateHasNoNext(t *testing.T) {
	for _, next := range []int{10, 20, 21, 50, math.MaxInt, -1} {
		list := []api.Entry{up(1, 10, 0), up(1, 20, 10)}
		list[1].R.Next, list[1].R.Begin = next, 7
		list[1].R.Txns, list[1].R.Pages = []api.TxnRow{{Txn: 1}}, []api.PageRow{{Page: 1}}
		wantTold(t, "Next of an update", list, 1, 20, 0, []int{20, 10}, 2, undoes(1, 20, 10), undoes(1, 10, 0))
	}
}

// A place below 0 is one as others are; but 0, where a chain ends, isn't less.
func TestPlacesBelowNought(t *testing.T) {
	list := []api.Entry{up(1, -30, 0), up(1, -20, -25), up(1, -10, -20), up(1, 0, -10), up(1, 10, 0), up(1, 20, -10), un(1, 30, 20, -10)}
	wantErrs(t, "Prev 0 of a place below 0", list, 1, -30, -31, api.ErrArg, api.ErrArg, api.ErrArg)
	wantErrs(t, "a stop at it", list, 1, -30, -30, api.ErrArg, api.ErrArg, api.OK)
	wantErrs(t, "no record", list, 1, -10, -99, api.ErrNone, api.ErrNone, api.ErrNone)
	wantErrs(t, "a stop above", list, 1, 30, -25, api.ErrNone, api.ErrNone, api.OK)
	got := alike(t, list, 1, 30, -25)
	if want := []api.Rec{undoes(1, -10, -20), undoes(1, -20, -25)}; !slices.EqualFunc(got.undos, want, record.Same) {
		t.Fatalf("below 0: %+v", got.undos)
	}
	wantErrs(t, "stop 0 is above them", list, 1, 30, 0, api.ErrNone, api.ErrNone, api.OK)
	wantTold(t, "the record at 0 isn't come to", list, 1, 10, -99, []int{10}, 1, undoes(1, 10, 0))
	wantTold(t, "nor is it from last on", list, 1, 0, -99, nil, 0)
	alikeAll(t, list, 1, 2)
}

// What is met first on the way is told, and nothing behind it.
func TestTheFirstErrorOnTheWay(t *testing.T) {
	list := []api.Entry{up(2, 10, 0), up(1, 20, 15), up(1, 30, 10), un(1, 40, 20, 30), un(1, 50, 30, 20)}
	wantErrs(t, "two ways", list, 1, 40, 0, api.ErrNone, api.ErrArg, api.ErrArg)
	wantErrs(t, "two ways", list, 1, 50, 0, api.ErrArg, api.ErrNone, api.ErrNone)
	list = append(list, un(1, 60, 60, 15), un(1, 70, 15, 70), un(2, 80, 15, 15), up(1, 90, 80))
	for _, last := range []int{60, 70, 80, 90} {
		wantErr(t, "a wrong record, behind which there is none", list, 1, last, api.ErrArg)
	}
	list[0], list[1] = list[1], list[0]
	for _, last := range []int{40, 50, 60, 70, 80, 90, 15, 0} {
		wantErr(t, "the list falls, too", list, 1, last, api.ErrForm)
	}
}

// Undo comes to no place that isn't above stop, so that what is wrong there isn't told by it.
func TestUndoComesToNoPlaceBelowStop(t *testing.T) {
	for _, wrong := range append(others(30, 10), up(1, 30, 30), up(1, 30, 40), up(1, 30, 29), un(1, 30, 10, 30), un(1, 30, 30, 10), un(1, 30, 10, 29)) {
		list := five()
		list[2] = wrong
		undos := []api.Rec{undoes(1, 50, 40), undoes(1, 40, 30)}
		for stop, want := range map[int][]api.Rec{30: undos, 31: undos, 39: undos, 40: undos[:1], 49: undos[:1], 50: nil, 51: nil, math.MaxInt: nil} {
			got := alike(t, list, 1, 50, stop)
			if got.eu != api.OK || !slices.EqualFunc(got.undos, want, record.Same) {
				t.Fatalf("stop %d of%s\n%+v, %d", stop, shown(list), got.undos, got.eu)
			}
		}
		for _, stop := range []int{math.MinInt, -1, 0, 1, 9, 10, 11, 20, 28} {
			if got := alike(t, list, 1, 50, stop); got.eu == api.OK {
				t.Fatalf("stop %d of%s\n%+v", stop, shown(list), got.undos)
			}
		}
	}
	for _, last := range append(wild(), 25, 55) { // nor is last itself come to
		for _, stop := range []int{last, max(last, last+1), math.MaxInt} {
			if undos, e := chain.Undo(five(), 1, last, stop); undos != nil || e != api.OK {
				t.Fatalf("last %d, stop %d: %+v, %d", last, stop, undos, e)
			}
		}
	}
}

// P11.2

func TestNothing(t *testing.T) {
	for _, list := range [][]api.Entry{nil, {}, five()[:1], five(), {up(1, 0, -1)}, {{}}} {
		for _, txn := range []int{0, 1, 2, -1} {
			for _, stop := range []int{0, 1, -1, math.MinInt, math.MaxInt} {
				wantTold(t, "last 0", list, txn, 0, stop, nil, 0)
			}
		}
	}
}

func TestAChainOfOne(t *testing.T) {
	for _, at := range []int{1, 2, 128, 1<<31 - 1, 1 << 31, math.MaxInt} {
		list := []api.Entry{up(1, at, 0)}
		for _, stop := range []int{math.MinInt, -1, 0, at - 1} {
			wantTold(t, "one update", list, 1, at, stop, []int{at}, 1, undoes(1, at, 0))
		}
		wantTold(t, "one update, at stop", list, 1, at, at, []int{at}, 1)
		wantTold(t, "one update, below stop", list, 1, at, math.MaxInt, []int{at}, 1)
		list = []api.Entry{un(1, at, 0, 0)}
		wantTold(t, "one undo", list, 1, at, 0, []int{at}, 0)
	}
}

func TestUpdatesAlone(t *testing.T) {
	h := newHist()
	for n := range 40 {
		h.knows(t, fmt.Sprint(n, " updates"), 1)
		wantTold(t, "nothing of another one", h.list, 2, 0, 0, nil, 0)
		h.update(1)
	}
	// From each of them on, those behind it don't count.
	for i, x := range h.list {
		got := alike(t, h.list, 1, x.At, 0)
		if len(got.places) != i+1 || got.left != i+1 || len(got.undos) != i+1 {
			t.Fatalf("from %d on: %+v", x.At, got)
		}
	}
}

// Chain goes on at Prev of an undo, Left at its Next: by what an undo skips they part.
func TestAnUndoSkipsChanges(t *testing.T) {
	list := []api.Entry{up(1, 10, 0), up(1, 20, 10), up(1, 30, 20), up(1, 40, 30)}
	for skip, left := range map[int]int{40: 4, 30: 3, 20: 2, 10: 1, 0: 0} {
		for prev, chain := range map[int][]int{40: {50, 40, 30, 20, 10}, 30: {50, 30, 20, 10}, 10: {50, 10}, 0: {50}} {
			got := alike(t, append(slices.Clone(list), un(1, 50, prev, skip)), 1, 50, 0)
			if !slices.Equal(got.places, chain) || got.left != left || len(got.undos) != left {
				t.Fatalf("Prev %d, Next %d: %+v", prev, skip, got)
			}
		}
	}
	// An undo whose Next is an undo, and one whose Next is an update that is undone already: the words are the same.
	list = append(list, un(1, 50, 40, 30), un(1, 60, 50, 50), un(1, 70, 60, 40))
	wantTold(t, "Next is an undo", list, 1, 60, 20, []int{60, 50, 40, 30, 20, 10}, 3, undoes(1, 30, 20))
	wantTold(t, "Next is undone", list, 1, 70, 20, []int{70, 60, 50, 40, 30, 20, 10}, 4, undoes(1, 40, 30), undoes(1, 30, 20))
	alikeAll(t, list, 1)
}

func TestOthersBetween(t *testing.T) {
	h := newHist()
	for n := range 12 {
		for txn := 1; txn <= 4; txn++ {
			h.update(txn)
			if n%3 == 2 {
				h.undo(txn)
			}
			if n%4 == 3 {
				h.undo(txn)
			}
		}
		h.write(api.Rec{Kind: api.RBegin})
		h.write(api.Rec{Kind: api.RTables, Begin: 1, Txns: []api.TxnRow{{Txn: 1, First: 1, Last: 2}}, Pages: []api.PageRow{{Page: 1, Rec: 1}}})
		h.write(api.Rec{Kind: api.RCommit, Txn: 5})
		for txn := 1; txn <= 4; txn++ {
			h.knows(t, "others between", txn)
		}
	}
	alikeAll(t, h.list[:40], 1, 2)
}

// A chain that is long is followed as a short one.
func TestALongChain(t *testing.T) {
	const n = 1 << 18
	list := make([]api.Entry, 0, n+n/2)
	for i := 1; i <= n; i++ {
		list = append(list, api.Entry{At: i, R: api.Rec{Kind: api.RUpdate, Txn: 1, Prev: i - 1, Before: "b", After: "a"}})
	}
	for i := 1; i <= n/2; i++ {
		list = append(list, api.Entry{At: n + i, R: api.Rec{Kind: api.RUndo, Txn: 1, Prev: n + i - 1, Next: n - i, After: "b"}})
	}
	places, e := chain.Chain(list, 1, n+n/2)
	if len(places) != n+n/2 || e != api.OK {
		t.Fatalf("Chain: %d places, %d", len(places), e)
	}
	for i, at := range places {
		if at != n+n/2-i {
			t.Fatalf("the place %d is %d", i, at)
		}
	}
	if left, e := chain.Left(list, 1, n+n/2); left != n/2 || e != api.OK {
		t.Fatalf("Left: %d, %d", left, e)
	}
	undos, e := chain.Undo(list, 1, n+n/2, n/4)
	if len(undos) != n/4 || e != api.OK || undos[0].Next != n/2-1 || undos[n/4-1].Next != n/4 {
		t.Fatalf("Undo: %d, %d", len(undos), e)
	}
}

// P11.3

// Whatever an update has, its undo has of it Txn, Page, Off, Before and Prev, and nothing else.
func TestWhatAnUndoHas(t *testing.T) {
	for _, page := range []int{0, 1, 7, 8, -1, math.MaxInt} {
		for _, off := range []int{0, 1, 219, 220, -1, math.MinInt} {
			for _, before := range []string{"", "b", "\x00\xff", "sixteen bytes ..", "a text that is longer than any record's may be"} {
				for _, prev := range []int{0, 5, 8, -5} {
					r := api.Rec{Kind: api.RUpdate, Txn: 3, Page: page, Off: off, Prev: prev, Before: before, After: "after",
						Next: 77, Begin: 88, Txns: []api.TxnRow{{Txn: 1, First: 2, Last: 3}}, Pages: []api.PageRow{{Page: 1, Rec: 2}}}
					list := []api.Entry{up(3, 5, 0), up(3, 8, 5), {At: 9, R: r}}
					undos, e := chain.Undo(list, 3, 9, 8)
					want := api.Rec{Kind: 2, Txn: 3, Page: page, Off: off, After: before, Next: prev}
					if e != api.OK || len(undos) != 1 || !record.Same(undos[0], want) {
						t.Fatalf("%+v, %d, not %+v", undos, e, want)
					}
				}
			}
		}
	}
}

func TestUndoAtEachStop(t *testing.T) {
	list := []api.Entry{up(1, 10, 0), up(1, 20, 10), un(1, 30, 20, 10), up(1, 40, 30), up(1, 50, 40), un(1, 60, 50, 40), up(1, 70, 60)}
	all := []api.Rec{undoes(1, 70, 60), undoes(1, 40, 30), undoes(1, 10, 0)}
	for stop := -100; stop <= 100; stop++ {
		n := 0
		for _, at := range []int{70, 40, 10} {
			if at > stop {
				n++
			}
		}
		wantTold(t, "at a stop", list, 1, 70, stop, []int{70, 60, 50, 40, 30, 20, 10}, 3, all[:n]...)
		alikeAll(t, list[:1+(stop+100)%7], 1)
	}
	for _, stop := range []int{math.MinInt, -1 << 40, -1, 0, 9} {
		wantTold(t, "at a low stop", list, 1, 70, stop, []int{70, 60, 50, 40, 30, 20, 10}, 3, all...)
	}
	for _, stop := range []int{70, 71, 1 << 40, math.MaxInt} {
		wantTold(t, "at a high stop", list, 1, 70, stop, []int{70, 60, 50, 40, 30, 20, 10}, 3)
	}
}

// P11.4

// writeUndos writes the first n records that Undo tells, each with the place of the one ahead as Prev.
func writeUndos(t *testing.T, h *hist, txn, stop, n int) {
	t.Helper()
	undos, e := chain.Undo(h.list, txn, h.last[txn], stop)
	if e != api.OK || len(undos) < n {
		t.Fatalf("Undo: %d, %d:%s", len(undos), e, shown(h.list))
	}
	for _, r := range undos[:n] {
		if r.Prev != 0 {
			t.Fatalf("Undo tells a Prev: %+v", r)
		}
		h.write(r)
	}
	gone := h.stands(txn, stop)[:n]
	h.open = slices.DeleteFunc(h.open, func(x hole) bool {
		return slices.ContainsFunc(gone, func(y hole) bool { return x.at == y.at })
	})
}

// Behind all of it there is nothing to undo; behind a part the rest is left, whichever part.
func TestWrittenInPart(t *testing.T) {
	for n := range 6 {
		histories(n, 4, func(h *hist) {
			for _, txn := range []int{1, 2} {
				ahead, e := chain.Undo(h.list, txn, h.last[txn], 0)
				if e != api.OK {
					t.Fatalf("Undo: %d", e)
				}
				for part := range len(ahead) + 1 {
					c := h.copy()
					writeUndos(t, c, txn, 0, part)
					c.fewer(t, 1, 2)
					c.knows(t, "the rest", txn)
					c.knows(t, "the other one", 3-txn)
					left, e := chain.Left(c.list, txn, c.last[txn])
					if left != len(ahead)-part || e != api.OK {
						t.Fatalf("%d of %d written: Left %d, %d:%s", part, len(ahead), left, e, shown(c.list))
					}
					rest, e := chain.Undo(c.list, txn, c.last[txn], 0)
					if e != api.OK || !slices.EqualFunc(rest, ahead[part:], record.Same) {
						t.Fatalf("%d of %d written: %+v, %d:%s", part, len(ahead), rest, e, shown(c.list))
					}
				}
			}
		})
	}
}

// Down to each stop: what stood below it stands still, and what comes later is undone for itself.
func TestWrittenDownToEachStop(t *testing.T) {
	histories(6, 2, func(h *hist) {
		for _, x := range append([]api.Entry{{}}, h.list...) {
			n := len(h.stands(1, x.At))
			for part := range n + 1 {
				c := h.copy()
				writeUndos(t, c, 1, x.At, part)
				c.knows(t, "behind a part", 1)
				c.update(2)
				c.update(1)
				c.knows(t, "a change more", 1)
				writeUndos(t, c, 1, x.At, n-part+1)
				c.knows(t, "behind the rest", 1)
				if undos, e := chain.Undo(c.list, 1, c.last[1], x.At); undos != nil || e != api.OK {
					t.Fatalf("down to %d there is more: %+v, %d:%s", x.At, undos, e, shown(c.list))
				}
				writeUndos(t, c, 1, 0, len(c.stands(1, 0)))
				c.knows(t, "down to 0", 1)
				c.fewer(t, 1, 2)
				if n, m := c.count(1, api.RUndo), c.count(1, api.RUpdate); n != m {
					t.Fatalf("%d undos of %d updates:%s", n, m, shown(c.list))
				}
			}
		}
	})
}

// However often one begins anew, and whatever comes between, each change is undone once.
func TestBegunAnewAgainAndAgain(t *testing.T) {
	for seed := range 200 {
		d := dice(seed)
		h := newHist()
		for range 60 {
			txn := 1 + d.below(3)
			switch d.below(6) {
			case 0, 1, 2:
				h.update(txn)
			case 3:
				h.write(api.Rec{Kind: api.RBegin})
			default:
				stop := 0
				if len(h.list) > 0 && d.below(2) == 0 {
					stop = h.list[d.below(len(h.list))].At
				}
				writeUndos(t, h, txn, stop, d.below(len(h.stands(txn, stop))+1))
			}
			h.fewer(t, 1, 2, 3)
		}
		for txn := 1; txn <= 3; txn++ {
			h.knows(t, "again and again", txn)
			for len(h.stands(txn, 0)) > 0 { // one by one, each time from the new end on
				writeUndos(t, h, txn, 0, 1)
			}
			wantTold(t, "all is undone", h.list, txn, h.last[txn], 0, h.places(txn), 0)
			if n, m := h.count(txn, api.RUndo), h.count(txn, api.RUpdate); n != m {
				t.Fatalf("txn %d: %d undos of %d updates", txn, n, m)
			}
		}
	}
}

// The rules that hold everywhere.

func TestTheListStaysAsItIs(t *testing.T) {
	d := dice(5)
	for n := range 300 {
		list := thrownList(&d, 1+n%12)
		room := slices.Grow(slices.Clone(list), 4)
		spare := room[len(room):cap(room)]
		for i := range spare {
			spare[i] = up(9, 9, 9)
		}
		was, wasSpare := copied(room), copied(spare)
		for _, x := range list {
			alike(t, room, 1, x.At, 0)
			alike(t, room, 2, x.At, x.At-1)
		}
		if !slices.EqualFunc(room, was, sameEntry) || !slices.EqualFunc(spare, wasSpare, sameEntry) {
			t.Fatalf("the list was%s\nand is%s", shown(was), shown(room))
		}
	}
}

func TestAnswersAreNewMemory(t *testing.T) {
	list := append(five(), un(1, 60, 50, 40))
	a, b := told3(list, 1, 60, 0), told3(list, 1, 60, 0)
	keep := plain3(list, 1, 60, 0)
	a.places = a.places[:cap(a.places)]
	for i := range a.places {
		a.places[i] = -7
	}
	a.undos = a.undos[:cap(a.undos)]
	for i := range a.undos {
		a.undos[i] = api.Rec{Kind: -7, Txn: -7}
	}
	if !b.same(keep) {
		t.Fatalf("another answer: %+v", b)
	}
	alike(t, list, 1, 60, 0)
	for i := range list { // nor is the list kept
		list[i] = up(9, 9-i, 9)
	}
	if !b.same(keep) {
		t.Fatalf("behind a change of the list: %+v", b)
	}
}

// A list is one with what it has: spare room, and a longer list's beginning, make no difference.
func TestAListIsWhatItHas(t *testing.T) {
	list := five()
	for n := range 6 {
		for _, last := range []int{10, 20, 30, 40, 50} {
			if got, want := told3(list[:n], 1, last, 0), told3(copied(list[:n]), 1, last, 0); !got.same(want) {
				t.Fatalf("%d of five: %+v, not %+v", n, got, want)
			}
			alike(t, list[:n], 1, last, 0)
		}
	}
}

func TestArgumentsOfAllSizes(t *testing.T) {
	numbers := append(wild(), 0, 10, 40, 50)
	for _, list := range [][]api.Entry{nil, five(), append(five(), un(1, 60, 50, 40))} {
		for _, txn := range numbers {
			for _, last := range numbers {
				for _, stop := range numbers {
					alike(t, list, txn, last, stop)
				}
			}
		}
	}
}
