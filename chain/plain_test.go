package chain_test

import (
	"fmt"
	"math"
	"slices"
	"testing"

	"careen/api"
	"careen/chain"
	"careen/record"
)

// Chains as the document tells them, without an iterator and without a search, and what holds the package's calls against them.

// rises tells whether each place is above all that are ahead of it.
func rises(list []api.Entry) bool {
	for i, x := range list {
		for _, ahead := range list[:i] {
			if ahead.At >= x.At {
				return false
			}
		}
	}
	return true
}

// come is the record of txn that stands at a place.
func come(list []api.Entry, txn, at int) (api.Rec, api.Errno) {
	for _, x := range list {
		if x.At != at {
			continue
		}
		r := x.R
		switch {
		case r.Kind != 1 && r.Kind != 2, r.Txn != txn, r.Prev >= at, r.Kind == 2 && r.Next >= at:
			return api.Rec{}, api.ErrArg
		}
		return r, api.OK
	}
	return api.Rec{}, api.ErrNone
}

// plainChain is the chain from a place on: it, and the chain from its Prev on.
func plainChain(list []api.Entry, txn, at int) ([]int, api.Errno) {
	if at == 0 {
		return nil, api.OK
	}
	r, e := come(list, txn, at)
	if e != api.OK {
		return nil, e
	}
	rest, e := plainChain(list, txn, r.Prev)
	if e != api.OK {
		return nil, e
	}
	return append([]int{at}, rest...), api.OK
}

// plainStands is the changes that stand from a place on; with a stop, as long as one comes to places above it.
func plainStands(list []api.Entry, txn, at int, stop *int) ([]api.Entry, api.Errno) {
	if at == 0 || stop != nil && at <= *stop {
		return nil, api.OK
	}
	r, e := come(list, txn, at)
	if e != api.OK {
		return nil, e
	}
	if r.Kind == 2 {
		return plainStands(list, txn, r.Next, stop)
	}
	rest, e := plainStands(list, txn, r.Prev, stop)
	if e != api.OK {
		return nil, e
	}
	return append([]api.Entry{{At: at, R: r}}, rest...), api.OK
}

// plainUndo is what undoes the changes that stand above stop.
func plainUndo(list []api.Entry, txn, at, stop int) ([]api.Rec, api.Errno) {
	stands, e := plainStands(list, txn, at, &stop)
	var undos []api.Rec
	for _, x := range stands {
		undos = append(undos, api.Rec{Kind: 2, Txn: x.R.Txn, Page: x.R.Page, Off: x.R.Off, After: x.R.Before, Next: x.R.Prev})
	}
	return undos, e
}

// told is what the three calls answer.
type told struct {
	places     []int
	left       int
	undos      []api.Rec
	ec, el, eu api.Errno
}

func (x told) same(y told) bool {
	return slices.Equal(x.places, y.places) && x.left == y.left && slices.EqualFunc(x.undos, y.undos, record.Same) &&
		x.ec == y.ec && x.el == y.el && x.eu == y.eu
}

func told3(list []api.Entry, txn, last, stop int) (x told) {
	x.places, x.ec = chain.Chain(list, txn, last)
	x.left, x.el = chain.Left(list, txn, last)
	x.undos, x.eu = chain.Undo(list, txn, last, stop)
	return x
}

func plain3(list []api.Entry, txn, last, stop int) (x told) {
	if !rises(list) {
		return told{ec: api.ErrForm, el: api.ErrForm, eu: api.ErrForm}
	}
	x.places, x.ec = plainChain(list, txn, last)
	stands, e := plainStands(list, txn, last, nil)
	x.left, x.el = len(stands), e
	x.undos, x.eu = plainUndo(list, txn, last, stop)
	return x
}

// alike holds the three calls against the plain ones, and answers what they told.
func alike(t *testing.T, list []api.Entry, txn, last, stop int) told {
	t.Helper()
	got, want := told3(list, txn, last, stop), plain3(list, txn, last, stop)
	if !got.same(want) {
		t.Fatalf("txn %d, last %d, stop %d of%s\n%+v, not\n%+v", txn, last, stop, shown(list), got, want)
	}
	return got
}

// alikeAll holds the calls against the plain ones from each place of a list and next to it, with each stop there.
func alikeAll(t *testing.T, list []api.Entry, txns ...int) {
	t.Helper()
	around := []int{0, -1, 1}
	for _, x := range list {
		around = append(around, x.At-1, x.At, x.At+1)
	}
	slices.Sort(around)
	around = slices.Compact(around)
	for _, txn := range txns {
		for _, last := range around {
			for _, stop := range around {
				alike(t, list, txn, last, stop)
			}
		}
	}
}

// shown is a list as one reads it where a test fails.
func shown(list []api.Entry) string {
	s := ""
	for _, x := range list {
		s += fmt.Sprintf("\n%d: %+v", x.At, x.R)
	}
	return s
}

// copied is a list with memory of its own.
func copied(list []api.Entry) []api.Entry {
	c := slices.Clone(list)
	for i := range c {
		c[i].R.Txns = slices.Clone(c[i].R.Txns)
		c[i].R.Pages = slices.Clone(c[i].R.Pages)
	}
	return c
}

func sameEntry(a, b api.Entry) bool {
	return a.At == b.At && record.Same(a.R, b.R)
}

// wild is numbers of all sizes, the least and the greatest ones too, that are none of the places of the lists here.
func wild() []int {
	return []int{-1, -2, -127, -1 << 31, -1 << 40, math.MinInt, math.MinInt + 1, 1, 1<<31 - 1, 1 << 31, 1<<32 + 1, 1 << 40, math.MaxInt - 1, math.MaxInt}
}

// wantTold holds what the calls tell against what is written out.
func wantTold(t *testing.T, what string, list []api.Entry, txn, last, stop int, places []int, left int, undos ...api.Rec) {
	t.Helper()
	got := alike(t, list, txn, last, stop)
	if want := (told{places: places, left: left, undos: undos}); !got.same(want) {
		t.Fatalf("%s: txn %d, last %d, stop %d of%s\n%+v, not\n%+v", what, txn, last, stop, shown(list), got, want)
	}
}

// wantErrs holds the errors of Chain, Left and Undo against what is written out; beside an error all else is zero.
func wantErrs(t *testing.T, what string, list []api.Entry, txn, last, stop int, ec, el, eu api.Errno) {
	t.Helper()
	got := alike(t, list, txn, last, stop)
	if got.ec != ec || got.el != el || got.eu != eu {
		t.Fatalf("%s: txn %d, last %d, stop %d of%s\n%d, %d, %d, not %d, %d, %d", what, txn, last, stop, shown(list), got.ec, got.el, got.eu, ec, el, eu)
	}
	if ec != api.OK && got.places != nil || el != api.OK && got.left != 0 || eu != api.OK && got.undos != nil {
		t.Fatalf("%s: beside an error: %+v", what, got)
	}
}

// wantErr is wantErrs, where all three answer the same.
func wantErr(t *testing.T, what string, list []api.Entry, txn, last int, e api.Errno) {
	t.Helper()
	wantErrs(t, what, list, txn, last, 0, e, e, e)
}

// hist is a log that transactions write, each record as the engine writes it: Prev is the last place of its transaction.
type hist struct {
	list []api.Entry
	last map[int]int
	open []hole // the changes that stand, as the history itself knows them
}

// hole is a change that stands.
type hole struct {
	txn, at int
	r       api.Rec
}

func newHist() *hist {
	return &hist{last: map[int]int{}}
}

// copy is a history that goes its own way.
func (h *hist) copy() *hist {
	c := &hist{list: copied(h.list), last: map[int]int{}, open: slices.Clone(h.open)}
	for txn, at := range h.last {
		c.last[txn] = at
	}
	return c
}

// next is a place behind all others; how far, hangs on how many there are.
func (h *hist) next() int {
	n := len(h.list)
	if n == 0 {
		return 128
	}
	return h.list[n-1].At + 1 + n%3*7
}

// write puts a record behind all others, with the place of its transaction's last one as Prev.
func (h *hist) write(r api.Rec) int {
	at := h.next()
	if r.Kind <= api.REnd {
		r.Prev = h.last[r.Txn]
		h.last[r.Txn] = at
	}
	h.list = append(h.list, api.Entry{At: at, R: r})
	return at
}

// update writes a change that no other one is like.
func (h *hist) update(txn int) int {
	n := len(h.list)
	r := api.Rec{Kind: api.RUpdate, Txn: txn, Page: n % 8, Off: n % 200, Before: fmt.Sprint("b", n), After: fmt.Sprint("a", n)}
	at := h.write(r)
	h.open = append(h.open, hole{txn, at, h.list[len(h.list)-1].R})
	return at
}

// undo undoes the last change of a transaction that stands, from what the history knows; false, if there is none.
func (h *hist) undo(txn int) bool {
	for i := len(h.open) - 1; i >= 0; i-- {
		if x := h.open[i]; x.txn == txn {
			h.write(x.undo())
			h.open = slices.Delete(h.open, i, i+1)
			return true
		}
	}
	return false
}

// undo is what undoes the change.
func (x hole) undo() api.Rec {
	return api.Rec{Kind: api.RUndo, Txn: x.txn, Page: x.r.Page, Off: x.r.Off, After: x.r.Before, Next: x.r.Prev}
}

// stands is the changes of a transaction that stand above a place, the last one first.
func (h *hist) stands(txn, stop int) []hole {
	var list []hole
	for _, x := range h.open {
		if x.txn == txn && x.at > stop {
			list = append([]hole{x}, list...)
		}
	}
	return list
}

// places is all that a transaction wrote, the last one first.
func (h *hist) places(txn int) []int {
	var list []int
	for _, x := range h.list {
		if x.R.Kind <= api.REnd && x.R.Txn == txn {
			list = append([]int{x.At}, list...)
		}
	}
	return list
}

// count is how many records of a kind a transaction has.
func (h *hist) count(txn, kind int) int {
	n := 0
	for _, x := range h.list {
		if x.R.Kind == kind && x.R.Txn == txn {
			n++
		}
	}
	return n
}

// knows holds the calls against what the history itself knows, for each stop.
func (h *hist) knows(t *testing.T, what string, txn int) {
	t.Helper()
	stops := []int{0, -1, math.MinInt, math.MaxInt}
	for _, x := range h.list {
		stops = append(stops, x.At-1, x.At, x.At+1)
	}
	for _, stop := range stops {
		var undos []api.Rec
		for _, x := range h.stands(txn, stop) {
			undos = append(undos, x.undo())
		}
		wantTold(t, what, h.list, txn, h.last[txn], stop, h.places(txn), len(h.stands(txn, 0)), undos...)
	}
}

// fewer holds that no transaction has more RUndos than RUpdates.
func (h *hist) fewer(t *testing.T, txns ...int) {
	t.Helper()
	for _, txn := range txns {
		if n, m := h.count(txn, api.RUndo), h.count(txn, api.RUpdate); n > m {
			t.Fatalf("txn %d: %d undos of %d updates:%s", txn, n, m, shown(h.list))
		}
	}
}
