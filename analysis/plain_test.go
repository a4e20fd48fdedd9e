package analysis_test

import (
	"fmt"
	"math"
	"slices"
	"testing"

	"careen/analysis"
	"careen/api"
	"careen/record"
)

// Analysis as the document tells it, number by number and without a map: of all that is said of a transaction, or of a page, only what comes behind its last end counts, and of that what came first, and the rows of tables.

// said is what one record says of a number: that it is over, that there was a change at a place, or a row of tables, from a place to a place.
type said struct {
	over, row bool
	from, to  int
}

// counts tells whether a record is one of the checkpoint's tables.
func counts(r api.Rec, check int) bool {
	return r.Kind == 6 && r.Begin == check
}

// ofTxn is what the records from check on say of a transaction, in order.
func ofTxn(list []api.Entry, check, txn int) []said {
	var all []said
	for _, x := range list {
		if x.At < check {
			continue
		}
		if (x.R.Kind == 1 || x.R.Kind == 2) && x.R.Txn == txn {
			all = append(all, said{from: x.At, to: x.At})
		}
		if (x.R.Kind == 3 || x.R.Kind == 4) && x.R.Txn == txn {
			all = append(all, said{over: true})
		}
		if counts(x.R, check) {
			for _, row := range x.R.Txns {
				if row.Txn == txn {
					all = append(all, said{row: true, from: row.First, to: row.Last})
				}
			}
		}
	}
	return all
}

// ofPage is what the records from check on say of a page, in order; to stays 0.
func ofPage(list []api.Entry, check, page int) []said {
	var all []said
	for _, x := range list {
		if x.At < check {
			continue
		}
		if (x.R.Kind == 1 || x.R.Kind == 2) && x.R.Page == page {
			all = append(all, said{from: x.At})
		}
		if counts(x.R, check) {
			for _, row := range x.R.Pages {
				if row.Page == page {
					all = append(all, said{row: true, from: row.Rec})
				}
			}
		}
	}
	return all
}

// standing is what comes behind the last end.
func standing(all []said) []said {
	for i := len(all) - 1; i >= 0; i-- {
		if all[i].over {
			return all[i+1:]
		}
	}
	return all
}

// firstOf is the least of what was said first and of all rows: a change behind another thing says nothing of where it began.
func firstOf(all []said) int {
	froms := []int{all[0].from}
	for _, x := range all {
		if x.row {
			froms = append(froms, x.from)
		}
	}
	return slices.Min(froms)
}

// lastOf is the greatest of the last change and of all rows behind it; of all rows, if there is no change.
func lastOf(all []said) int {
	var tos []int
	for _, x := range slices.Backward(all) {
		tos = append(tos, x.to)
		if !x.row {
			break
		}
	}
	return slices.Max(tos)
}

// numbers is all numbers of transactions and pages that a list has anywhere, rising, each once.
func numbers(list []api.Entry) []int {
	var all []int
	for _, x := range list {
		all = append(all, x.R.Txn, x.R.Page)
		for _, row := range x.R.Txns {
			all = append(all, row.Txn)
		}
		for _, row := range x.R.Pages {
			all = append(all, row.Page)
		}
	}
	slices.Sort(all)
	return slices.Compact(all)
}

// rises tells whether each place is above all that are ahead of it.
func rises(list []api.Entry) bool {
	for i, x := range list {
		for _, ahead := range list[:i] {
			if ahead.At >= x.At {
				return false
			}
		}
	}
	return true
}

// begun tells whether an RBegin stands at a place.
func begun(list []api.Entry, at int) bool {
	return slices.ContainsFunc(list, func(x api.Entry) bool { return x.At == at && x.R.Kind == 5 })
}

// told is what Tables answers.
type told struct {
	txns  []api.TxnRow
	pages []api.PageRow
	e     api.Errno
}

func (x told) same(y told) bool {
	return slices.Equal(x.txns, y.txns) && slices.Equal(x.pages, y.pages) && x.e == y.e
}

func plainTables(list []api.Entry, check int) (x told) {
	if !rises(list) {
		return told{e: api.ErrForm}
	}
	if check != 0 && !begun(list, check) {
		return told{e: api.ErrNone}
	}
	for _, n := range numbers(list) {
		if all := standing(ofTxn(list, check, n)); len(all) > 0 {
			x.txns = append(x.txns, api.TxnRow{Txn: n, First: firstOf(all), Last: lastOf(all)})
		}
		if all := ofPage(list, check, n); len(all) > 0 {
			x.pages = append(x.pages, api.PageRow{Page: n, Rec: firstOf(all)})
		}
	}
	return x
}

// recs and firsts are what From and Horizon look at.

func recs(pages []api.PageRow) (all []int) {
	for _, p := range pages {
		all = append(all, p.Rec)
	}
	return all
}

func firsts(txns []api.TxnRow) (all []int) {
	for _, x := range txns {
		all = append(all, x.First)
	}
	return all
}

func plainFrom(pages []api.PageRow) int {
	if len(pages) == 0 {
		return 2147483647
	}
	return slices.Min(recs(pages))
}

func plainHorizon(check int, txns []api.TxnRow, pages []api.PageRow) int {
	if check == 0 {
		return 0
	}
	return slices.Min(slices.Concat([]int{check}, firsts(txns), recs(pages)))
}

// tables is Tables, its answers taken together.
func tables(list []api.Entry, check int) (x told) {
	x.txns, x.pages, x.e = analysis.Tables(list, check)
	return x
}

// alike holds the three calls against the plain ones, and answers what Tables told.
func alike(t *testing.T, list []api.Entry, check int) told {
	t.Helper()
	got, want := tables(list, check), plainTables(list, check)
	if !got.same(want) {
		t.Fatalf("check %d of%s\n%+v, not\n%+v", check, shown(list), got, want)
	}
	wantFrom(t, check, got.pages, plainFrom(got.pages))
	wantHorizon(t, check, got.txns, got.pages, plainHorizon(check, got.txns, got.pages))
	return got
}

// alikeAll holds the calls against the plain ones with each place of a list, and each next to one, as check.
func alikeAll(t *testing.T, list []api.Entry) {
	t.Helper()
	around := []int{0, -1, 1}
	for _, x := range list {
		around = append(around, x.At-1, x.At, x.At+1)
	}
	slices.Sort(around)
	for _, check := range slices.Compact(around) {
		alike(t, list, check)
	}
}

// wantTold holds what Tables tells against what is written out.
func wantTold(t *testing.T, what string, list []api.Entry, check int, txns []api.TxnRow, pages []api.PageRow) {
	t.Helper()
	got := alike(t, list, check)
	if want := (told{txns: txns, pages: pages}); !got.same(want) {
		t.Fatalf("%s: check %d of%s\n%+v, not\n%+v", what, check, shown(list), got, want)
	}
}

// wantErr holds the error of Tables against what is written out; beside an error both lists are empty.
func wantErr(t *testing.T, what string, list []api.Entry, check int, e api.Errno) {
	t.Helper()
	got := alike(t, list, check)
	if got.e != e || e != api.OK && (len(got.txns) != 0 || len(got.pages) != 0) {
		t.Fatalf("%s: check %d of%s\n%+v, not %d", what, check, shown(list), got, e)
	}
}

func wantFrom(t *testing.T, check int, pages []api.PageRow, want int) {
	t.Helper()
	if got := analysis.From(check, pages); got != want {
		t.Fatalf("From(%d, %v): %d, not %d", check, pages, got, want)
	}
}

func wantHorizon(t *testing.T, check int, txns []api.TxnRow, pages []api.PageRow, want int) {
	t.Helper()
	if got := analysis.Horizon(check, txns, pages); got != want {
		t.Fatalf("Horizon(%d, %v, %v): %d, not %d", check, txns, pages, got, want)
	}
}

// Records at places, and rows, in short.

func up(at, txn, page int) api.Entry {
	return api.Entry{At: at, R: api.Rec{Kind: api.RUpdate, Txn: txn, Page: page, Before: "b", After: "a"}}
}

func un(at, txn, page int) api.Entry {
	return api.Entry{At: at, R: api.Rec{Kind: api.RUndo, Txn: txn, Page: page, After: "b"}}
}

func commit(at, txn int) api.Entry {
	return api.Entry{At: at, R: api.Rec{Kind: api.RCommit, Txn: txn}}
}

func end(at, txn int) api.Entry {
	return api.Entry{At: at, R: api.Rec{Kind: api.REnd, Txn: txn}}
}

func begin(at int) api.Entry {
	return api.Entry{At: at, R: api.Rec{Kind: api.RBegin}}
}

func tabs(at, begin int, txns []api.TxnRow, pages []api.PageRow) api.Entry {
	return api.Entry{At: at, R: api.Rec{Kind: api.RTables, Begin: begin, Txns: txns, Pages: pages}}
}

// txns is rows, three numbers each; pages is rows, two numbers each.

func txns(n ...int) (rows []api.TxnRow) {
	for c := range slices.Chunk(n, 3) {
		rows = append(rows, api.TxnRow{Txn: c[0], First: c[1], Last: c[2]})
	}
	return rows
}

func pages(n ...int) (rows []api.PageRow) {
	for c := range slices.Chunk(n, 2) {
		rows = append(rows, api.PageRow{Page: c[0], Rec: c[1]})
	}
	return rows
}

// shown is a list as one reads it where a test fails.
func shown(list []api.Entry) string {
	s := ""
	for _, x := range list {
		s += fmt.Sprintf("\n%d: %+v", x.At, x.R)
	}
	return s
}

// copied is a list with memory of its own.
func copied(list []api.Entry) []api.Entry {
	c := slices.Clone(list)
	for i := range c {
		c[i].R.Txns = slices.Clone(c[i].R.Txns)
		c[i].R.Pages = slices.Clone(c[i].R.Pages)
	}
	return c
}

func sameEntry(a, b api.Entry) bool {
	return a.At == b.At && record.Same(a.R, b.R)
}

// wild is numbers of all sizes, the least and the greatest ones too, rising.
func wild() []int {
	return []int{math.MinInt, math.MinInt + 1, -1 << 40, -1 << 32, -1 << 31, -257, -2, -1, 0, 1, 2, 5, 255, 256, 257, 1<<31 - 1, 1 << 31, 1 << 32, 1<<32 + 1, 1 << 40, math.MaxInt - 1, math.MaxInt}
}

// dice is numbers that look thrown, the same ones each time.
type dice uint64

func (d *dice) below(n int) int {
	*d = *d*6364136223846793005 + 1442695040888963407
	return int(uint64(*d) >> 33 % uint64(n))
}

// one is one of some numbers.
func (d *dice) one(n ...int) int {
	return n[d.below(len(n))]
}
