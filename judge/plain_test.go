package judge_test

import (
	"fmt"
	"math"
	"slices"
	"testing"
	"unsafe"

	"careen/api"
	"careen/judge"
	"careen/record"
)

// A judge as the document tells it: of each record it asks anew what is ahead of it, and keeps nothing in between.

// own is the records of a transaction since it was opened; none, if it isn't open.
func own(ahead []api.Entry, txn int) (list []api.Entry) {
	for _, x := range ahead {
		switch {
		case x.R.Txn != txn:
		case x.R.Kind == 1 || x.R.Kind == 2:
			list = append(list, x)
		case x.R.Kind == 3 || x.R.Kind == 4:
			list = nil
		}
	}
	return list
}

// standing is which of these changes stand: from the last one back, each RUndo takes away the next RUpdate that no other one does.
func standing(list []api.Entry) (stand []api.Entry) {
	undos := 0
	for _, x := range slices.Backward(list) {
		switch {
		case x.R.Kind == 2:
			undos++
		case undos > 0:
			undos--
		default:
			stand = append(stand, x)
		}
	}
	slices.Reverse(stand)
	return stand
}

// sheet is a page's bytes.
type sheet [220]byte

// lay lays a text on it, unless a byte of it would be beside it.
func (s *sheet) lay(off int, text string) {
	if off >= 0 && off <= 220 && len(text) <= 220-off {
		copy(s[off:], text)
	}
}

// on is what the records have made of a page.
func on(ahead []api.Entry, page int) (s sheet) {
	for _, x := range ahead {
		if x.R.Page == page && (x.R.Kind == 1 || x.R.Kind == 2) {
			s.lay(x.R.Off, x.R.After)
		}
	}
	return s
}

// broken is the rules that a record breaks, by their numbers.
func broken(ahead []api.Entry, x api.Entry) (rules []int) {
	says := func(rule int, broke bool) {
		if broke {
			rules = append(rules, rule)
		}
	}
	r, mine := x.R, own(ahead, x.R.Txn)
	prev, stand := 0, standing(mine)
	if len(mine) > 0 {
		prev = mine[len(mine)-1].At
	}
	says(1, x.At <= 0 || r.Kind < 1 || r.Kind > 6 || slices.ContainsFunc(ahead, func(y api.Entry) bool { return y.At >= x.At }))
	says(2, r.Kind >= 1 && r.Kind <= 4 && r.Prev != prev)
	says(3, r.Kind == 2 && !undoes(stand, r))
	says(4, r.Kind == 4 && len(stand) > 0)
	says(5, r.Kind == 1 && !stood(ahead, r))
	says(6, r.Kind == 6 && !slices.ContainsFunc(ahead, func(y api.Entry) bool { return y.R.Kind == 5 && y.At == r.Begin }))
	return rules
}

func undoes(stand []api.Entry, r api.Rec) bool {
	if len(stand) == 0 {
		return false
	}
	last := stand[len(stand)-1].R
	return last.Page == r.Page && last.Off == r.Off && last.Before == r.After && last.Prev == r.Next
}

func stood(ahead []api.Entry, r api.Rec) bool {
	if r.Page < 0 || r.Page > 7 || r.Off < 0 || r.Off > 220 || len(r.Before) > 220-r.Off || len(r.After) > 220-r.Off {
		return false
	}
	s := on(ahead, r.Page)
	return string(s[r.Off:r.Off+len(r.Before)]) == r.Before
}

func plainFaults(list []api.Entry) (faults []api.Entry) {
	for i, x := range list {
		if len(broken(list[:i], x)) > 0 {
			faults = append(faults, x)
		}
	}
	return faults
}

func plainCommits(list []api.Entry) (owners []int) {
	for _, x := range list {
		if x.R.Kind == 3 {
			owners = append(owners, x.R.Txn)
		}
	}
	return owners
}

func plainOpen(list []api.Entry) (rows []api.TxnRow) {
	var numbers []int
	for _, x := range list {
		numbers = append(numbers, x.R.Txn)
	}
	slices.Sort(numbers)
	for _, n := range slices.Compact(numbers) {
		if mine := own(list, n); len(mine) > 0 {
			rows = append(rows, api.TxnRow{Txn: n, First: mine[0].At, Last: mine[len(mine)-1].At})
		}
	}
	return rows
}

func plainPages(list []api.Entry, pages int) (told []string) {
	if pages < 0 || pages > 8 {
		return nil
	}
	for n := range pages {
		var s sheet
		for i, x := range list {
			if x.R.Kind != 3 {
				continue
			}
			for _, y := range standing(own(list[:i], x.R.Txn)) {
				if y.R.Page == n {
					s.lay(y.R.Off, y.R.After)
				}
			}
		}
		told = append(told, string(s[:]))
	}
	return told
}

// alike holds all four calls against the plain ones.
func alike(t *testing.T, list []api.Entry) {
	t.Helper()
	if got, want := judge.Faults(list), plainFaults(list); !sameEntries(got, want) {
		t.Fatalf("Faults: %v, not %v, of%s", places(got), places(want), shown(list))
	}
	if got, want := judge.Commits(list), plainCommits(list); !slices.Equal(got, want) {
		t.Fatalf("Commits: %v, not %v, of%s", got, want, shown(list))
	}
	if got, want := judge.Open(list), plainOpen(list); !slices.Equal(got, want) {
		t.Fatalf("Open: %v, not %v, of%s", got, want, shown(list))
	}
	for _, n := range []int{0, 2, 8} {
		alikePages(t, list, n)
	}
}

func alikePages(t *testing.T, list []api.Entry, n int) {
	t.Helper()
	if got, want := judge.Pages(list, n), plainPages(list, n); !slices.Equal(got, want) {
		t.Fatalf("Pages(%d): %q, not %q, of%s", n, got, want, shown(list))
	}
}

// wantFaults holds the faults against places that are written out.
func wantFaults(t *testing.T, what string, list []api.Entry, want ...int) {
	t.Helper()
	alike(t, list)
	got := judge.Faults(list)
	if !slices.Equal(places(got), want) {
		t.Fatalf("%s: faults at %v, not at %v, of%s", what, places(got), want, shown(list))
	}
}

// wantBroken holds the rules that are broken, record by record, against ones that are written out: those of the plain judge by their numbers, those of the other one by being told.
func wantBroken(t *testing.T, what string, list []api.Entry, want map[int][]int) {
	t.Helper()
	alike(t, list)
	var faults []api.Entry
	for i, x := range list {
		if got := broken(list[:i], x); !slices.Equal(got, want[i]) {
			t.Fatalf("%s: the record %d breaks the rules %v, not %v, of%s", what, i, got, want[i], shown(list))
		}
		if len(want[i]) > 0 {
			faults = append(faults, x)
		}
	}
	if got := judge.Faults(list); !sameEntries(got, faults) {
		t.Fatalf("%s: faults at %v, not at %v, of%s", what, places(got), places(faults), shown(list))
	}
}

func wantOpen(t *testing.T, what string, list []api.Entry, want ...int) {
	t.Helper()
	alike(t, list)
	var rows []api.TxnRow
	for c := range slices.Chunk(want, 3) {
		rows = append(rows, api.TxnRow{Txn: c[0], First: c[1], Last: c[2]})
	}
	if got := judge.Open(list); !slices.Equal(got, rows) {
		t.Fatalf("%s: Open: %v, not %v, of%s", what, got, rows, shown(list))
	}
}

func wantCommits(t *testing.T, what string, list []api.Entry, want ...int) {
	t.Helper()
	alike(t, list)
	if got := judge.Commits(list); !slices.Equal(got, want) {
		t.Fatalf("%s: Commits: %v, not %v, of%s", what, got, want, shown(list))
	}
}

// wantPages holds the pages against their beginnings, behind which are noughts.
func wantPages(t *testing.T, what string, list []api.Entry, want ...string) {
	t.Helper()
	alike(t, list)
	got := judge.Pages(list, len(want))
	if len(got) != len(want) {
		t.Fatalf("%s: %d pages, not %d", what, len(got), len(want))
	}
	for i, text := range want {
		if got[i] != filled(text) {
			t.Fatalf("%s: the page %d: %q, not %q, of%s", what, i, got[i], text, shown(list))
		}
	}
}

// filled is a text with noughts behind it, as many as make it a page.
func filled(text string) string {
	return text + string(make([]byte, 220-len(text)))
}

// Records at places, in short.

func up(at, txn, prev, page, off int, before, after string) api.Entry {
	return api.Entry{At: at, R: api.Rec{Kind: api.RUpdate, Txn: txn, Prev: prev, Page: page, Off: off, Before: before, After: after}}
}

func un(at, txn, prev, next, page, off int, after string) api.Entry {
	return api.Entry{At: at, R: api.Rec{Kind: api.RUndo, Txn: txn, Prev: prev, Next: next, Page: page, Off: off, After: after}}
}

func commit(at, txn, prev int) api.Entry {
	return api.Entry{At: at, R: api.Rec{Kind: api.RCommit, Txn: txn, Prev: prev}}
}

func end(at, txn, prev int) api.Entry {
	return api.Entry{At: at, R: api.Rec{Kind: api.REnd, Txn: txn, Prev: prev}}
}

func begin(at int) api.Entry {
	return api.Entry{At: at, R: api.Rec{Kind: api.RBegin}}
}

func tabs(at, begin int) api.Entry {
	return api.Entry{At: at, R: api.Rec{Kind: api.RTables, Begin: begin}}
}

// writer writes logs that keep all rules.
type writer struct {
	list []api.Entry
	step int // from one place to the next; 10, if 0
}

// add writes a record; if it is one of a transaction, Prev is as it must be.
func (w *writer) add(r api.Rec) int {
	if mine := own(w.list, r.Txn); r.Kind <= 4 && len(mine) > 0 {
		r.Prev = mine[len(mine)-1].At
	}
	at := w.next()
	w.list = append(w.list, api.Entry{At: at, R: r})
	return at
}

// next is where the next record stands.
func (w *writer) next() int {
	if len(w.list) == 0 {
		return 128
	}
	return w.list[len(w.list)-1].At + max(w.step, 10)
}

func (w *writer) up(txn, page, off int, after string) int {
	s := on(w.list, page)
	return w.add(api.Rec{Kind: api.RUpdate, Txn: txn, Page: page, Off: off, Before: string(s[off : off+len(after)]), After: after})
}

// undo undoes the last change that stands, if there is one.
func (w *writer) undo(txn int) bool {
	stand := standing(own(w.list, txn))
	if len(stand) == 0 {
		return false
	}
	c := stand[len(stand)-1].R
	w.add(api.Rec{Kind: api.RUndo, Txn: txn, Page: c.Page, Off: c.Off, Next: c.Prev, After: c.Before})
	return true
}

func (w *writer) commit(txn int) int { return w.add(api.Rec{Kind: api.RCommit, Txn: txn}) }

// abort undoes all, and ends.
func (w *writer) abort(txn int) {
	for w.undo(txn) {
	}
	w.add(api.Rec{Kind: api.REnd, Txn: txn})
}

func (w *writer) begin() int       { return w.add(api.Rec{Kind: api.RBegin}) }
func (w *writer) tables(begin int) { w.add(api.Rec{Kind: api.RTables, Begin: begin}) }

// Lists.

func places(list []api.Entry) (at []int) {
	for _, x := range list {
		at = append(at, x.At)
	}
	return at
}

// shown is a list as one reads it where a test fails.
func shown(list []api.Entry) string {
	s := ""
	for _, x := range list {
		s += fmt.Sprintf("\n%d: %+v", x.At, x.R)
	}
	return s
}

// copied is a list with memory of its own.
func copied(list []api.Entry) []api.Entry {
	c := slices.Clone(list)
	for i := range c {
		c[i].R.Txns = slices.Clone(c[i].R.Txns)
		c[i].R.Pages = slices.Clone(c[i].R.Pages)
	}
	return c
}

// bent is a copy of a list of which one record is another one.
func bent(list []api.Entry, i int, bend func(x *api.Entry)) []api.Entry {
	c := copied(list)
	bend(&c[i])
	return c
}

func sameEntry(a, b api.Entry) bool {
	return a.At == b.At && record.Same(a.R, b.R)
}

func sameEntries(a, b []api.Entry) bool {
	return slices.EqualFunc(a, b, sameEntry)
}

// shares tells whether two lists begin in the same memory.
func shares[E any](a, b []E) bool {
	return cap(a) > 0 && cap(b) > 0 && unsafe.SliceData(a) == unsafe.SliceData(b)
}

// sharesText tells whether a text lies where another one lies, or in it.
func sharesText(a, b string) bool {
	from, to := uintptr(unsafe.Pointer(unsafe.StringData(a))), uintptr(unsafe.Pointer(unsafe.StringData(b)))
	return a != "" && b != "" && from < to+uintptr(len(b)) && to < from+uintptr(len(a))
}

// wild is numbers of all sizes, the least and the greatest ones too, rising.
func wild() []int {
	return []int{math.MinInt, math.MinInt + 1, -1 << 40, -1 << 32, -1 << 31, -257, -2, -1, 0, 1, 2, 5, 7, 8, 9, 219, 220, 221, 255, 256, 257, 1<<31 - 1, 1 << 31, 1 << 32, 1<<32 + 1, 1 << 40, math.MaxInt - 1, math.MaxInt}
}

// dice is numbers that look thrown, the same ones each time.
type dice uint64

func (d *dice) below(n int) int {
	*d = *d*6364136223846793005 + 1442695040888963407
	return int(uint64(*d) >> 33 % uint64(n))
}

// one is one of some numbers.
func (d *dice) one(n ...int) int {
	return n[d.below(len(n))]
}

// text is some bytes, few of them different ones.
func (d *dice) text(n int) string {
	b := make([]byte, n)
	for i := range b {
		b[i] = "\x00ab"[d.below(3)]
	}
	return string(b)
}
