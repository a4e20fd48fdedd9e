package analysis_test

import (
	"fmt"
	"maps"
	"math"
	"slices"
	"testing"

	"careen/analysis"
	"careen/api"
)

// The chapter's example.

func TestExample(t *testing.T) {
	list := []api.Entry{up(128, 1, 2), up(150, 2, 0), commit(170, 1)}
	wantTold(t, "the example", list, 0, txns(2, 150, 150), pages(0, 150, 2, 128))
	wantFrom(t, 0, pages(0, 150, 2, 128), 128)
	wantHorizon(t, 0, txns(2, 150, 150), pages(0, 150, 2, 128), 0)
}

// All promises, over many lists.

// step is one record more of a history, at a place; begun is the place of the last RBegin, 0, if there is none.
type step func(at, begun int) api.Entry

func steps() []step {
	row := func(n int) func(at, begun int) api.Entry {
		return func(at, begun int) api.Entry {
			return tabs(at, begun, txns(2, at-n, at+n, 1, at+n, at-n), pages(1, at+n, 0, at-n))
		}
	}
	return []step{
		func(at, begun int) api.Entry { return up(at, 1, 0) },
		func(at, begun int) api.Entry { return un(at, 2, 1) },
		func(at, begun int) api.Entry { return commit(at, 1) },
		func(at, begun int) api.Entry { return begin(at) },
		row(15), row(-15),
		func(at, begun int) api.Entry { return end(at, 2) },
		func(at, begun int) api.Entry { return up(at, 2, 0) },
		func(at, begun int) api.Entry { return tabs(at, 0, txns(1, 0, 7), pages(1, 5)) },
		func(at, begun int) api.Entry { return tabs(at, at, txns(3, 1, 1), pages(3, 1)) },
	}
}

// histories calls f with each history of n of the first k steps, with places from a first one on.
func histories(n, k, first int, f func(list []api.Entry)) {
	var lay func(list []api.Entry, n, begun int)
	lay = func(list []api.Entry, n, begun int) {
		if n == 0 {
			f(list)
			return
		}
		at := first + 10*len(list)
		for _, s := range steps()[:k] {
			x := s(at, begun)
			now := begun
			if x.R.Kind == api.RBegin {
				now = at
			}
			lay(append(slices.Clip(list), x), n-1, now)
		}
	}
	lay(nil, n, 0)
}

func TestEachShortHistory(t *testing.T) {
	for n := range 5 {
		histories(n, 10, 100, func(list []api.Entry) { alikeAll(t, list) })
	}
	for n := range 4 { // around the place 0
		histories(n, 10, -10, func(list []api.Entry) { alikeAll(t, list) })
	}
}

func TestEachLongerHistory(t *testing.T) {
	histories(6, 6, 100, func(list []api.Entry) {
		alike(t, list, 0)
		for _, x := range list {
			if x.R.Kind == api.RBegin {
				alike(t, list, x.At)
			}
		}
	})
}

// thrownRows is rows of tables as the dice fall, in any order, some numbers more than once.
func thrownRows(d *dice, at int) ([]api.TxnRow, []api.PageRow) {
	var x []api.TxnRow
	var p []api.PageRow
	for range d.below(6) {
		x = append(x, api.TxnRow{Txn: d.one(1, 2, 3, 4, -1, 0, 1<<32+1), First: at - 30 + d.below(60), Last: at - 30 + d.below(60)})
	}
	for range d.below(6) {
		p = append(p, api.PageRow{Page: d.one(0, 1, 2, 7, 8, -1, 256), Rec: at - 30 + d.below(60)})
	}
	return x, p
}

// thrownList is a list as the dice fall: all kinds, places below 0 too, and all fields filled, also those that a kind hasn't.
func thrownList(d *dice, n int) []api.Entry {
	var list []api.Entry
	at, begun := d.one(0, 1, 128, -40)-1, 0
	for range n {
		at += 1 + d.below(4)
		r := api.Rec{Kind: d.one(1, 1, 1, 2, 2, 3, 4, 5, 6, 6, 6, 7, 0, -1), Txn: d.one(1, 2, 3, 4, -1, 0, 1<<32+1), Page: d.one(0, 1, 2, 7, 8, -1, 256)}
		r.Off, r.Prev, r.Next, r.Begin = d.below(9), d.below(9), d.below(9), d.one(begun, begun, begun, begun-1, 0, at)
		r.Txns, r.Pages = thrownRows(d, at)
		if r.Kind == 5 {
			begun = at
		}
		list = append(list, api.Entry{At: at, R: r})
	}
	if d.below(30) == 0 {
		i := d.below(n)
		list[i].At += 1 - d.below(8)
	}
	return list
}

func TestThrownLists(t *testing.T) {
	met := map[string]int{}
	for n := range 3000 {
		d := dice(n)
		list := thrownList(&d, 1+n%30)
		alikeAll(t, list)
		for _, x := range list {
			got := alike(t, list, x.At)
			met[fmt.Sprint(got.e)]++
			if len(got.txns) > 2 && len(got.pages) > 2 {
				met["all of it"]++
			}
		}
	}
	for _, s := range []string{"0", "3", "7", "all of it"} {
		if met[s] < 200 {
			t.Errorf("%s was met %d times only", s, met[s])
		}
	}
}

// P13.1: the errors.

// five is a list of five records, with a checkpoint from 30 on.
func five() []api.Entry {
	return []api.Entry{up(10, 1, 0), up(20, 2, 1), begin(30), tabs(40, 30, txns(1, 10, 10, 2, 20, 20), pages(0, 10, 1, 20)), un(50, 1, 2)}
}

func TestPlacesMustRise(t *testing.T) {
	checks := []int{0, 30, 10, 25, -1, 99, math.MinInt, math.MaxInt}
	for i := range 5 {
		for k := range 5 {
			for _, d := range []int{-1, 0, 1} {
				list := five()
				list[i].At = list[k].At + d
				for _, check := range append(checks, list[2].At) {
					if got := alike(t, list, check); (got.e == api.ErrForm) == rises(list) {
						t.Fatalf("check %d of%s\n%+v", check, shown(list), got)
					}
				}
			}
		}
	}
	for _, order := range [][]int{{1, 0, 2, 3, 4}, {0, 2, 1, 3, 4}, {0, 1, 3, 2, 4}, {0, 1, 2, 4, 3}, {4, 3, 2, 1, 0}, {1, 2, 3, 4, 0}, {4, 0, 1, 2, 3}} {
		var list []api.Entry
		for _, i := range order {
			list = append(list, five()[i])
		}
		for _, check := range checks { // also where check is no RBegin's: ErrForm comes first
			wantErr(t, "places that fall", list, check, api.ErrForm)
		}
	}
	for i := range 5 { // the same entry twice
		list := slices.Insert(five(), i, five()[i])
		for _, check := range checks {
			wantErr(t, "an entry twice", list, check, api.ErrForm)
		}
	}
	for _, check := range checks { // of two records, of any kind
		wantErr(t, "two begin at one place", []api.Entry{begin(30), begin(30)}, check, api.ErrForm)
		wantErr(t, "the second one is lower", []api.Entry{begin(30), begin(29)}, check, api.ErrForm)
		wantErr(t, "ahead of check", []api.Entry{up(3, 1, 1), up(2, 1, 1), begin(30)}, check, api.ErrForm)
		wantErr(t, "behind check", []api.Entry{begin(30), {At: 41}, {At: 41}}, check, api.ErrForm)
	}
}

// The least and the greatest places: their difference is no number.
func TestPlacesOfAllSizes(t *testing.T) {
	least, most := begin(math.MinInt), begin(math.MaxInt)
	wantErr(t, "from the greatest to the least", []api.Entry{most, least}, 0, api.ErrForm)
	wantErr(t, "from the greatest to the least", []api.Entry{most, least}, math.MaxInt, api.ErrForm)
	for i, a := range wild() {
		for k, b := range wild() {
			list := []api.Entry{begin(a), begin(b)}
			e := api.OK
			if i >= k {
				e = api.ErrForm
			}
			for _, check := range []int{0, a, b} {
				wantErr(t, "two places", list, check, e)
			}
		}
	}
	var list []api.Entry
	for _, at := range wild() {
		list = append(list, begin(at))
	}
	for i, at := range wild() {
		wantErr(t, "each place", list, at, api.OK)
		c := slices.Clone(list)
		c[i] = up(at, 1, at)
		if at != 0 {
			wantErr(t, "each place of an update", c, at, api.ErrNone)
		}
		wantTold(t, "from the least place on", list[:1+i], math.MinInt, nil, nil)
	}
	ups := []api.Entry{least, up(-1, 1, 1), up(0, 2, 2), up(math.MaxInt, 1, 3)}
	wantTold(t, "from the least place on", ups, math.MinInt, txns(1, -1, math.MaxInt, 2, 0, 0), pages(1, -1, 2, 0, 3, math.MaxInt))
	wantTold(t, "from 0 on", ups, 0, txns(1, math.MaxInt, math.MaxInt, 2, 0, 0), pages(2, 0, 3, math.MaxInt))
}

func TestCheckMustBeThePlaceOfABegin(t *testing.T) {
	lists := [][]api.Entry{nil, {}, five()[:2], five()[:3], five(), {begin(0)}, {{}}}
	for _, list := range lists {
		for _, check := range append(wild(), 10, 20, 29, 31, 35, 40, 45, 50, 51, 99, -30) {
			if check == 0 {
				wantErr(t, "check 0", list, 0, api.OK)
				continue
			}
			wantErr(t, "no place of an RBegin", list, check, api.ErrNone)
		}
	}
	// A place of check's value, whose record is another one; that there is an RBegin elsewhere makes no difference.
	kinds := []int{api.RUpdate, api.RUndo, api.RCommit, api.REnd, api.RTables, 0, 7, 8, -1, -5, 256 + 5, 1<<32 + 5, math.MinInt, math.MaxInt}
	for _, kind := range kinds {
		for i := range 3 {
			list := []api.Entry{begin(10), begin(20), begin(30)}
			at := list[i].At
			list[i].R = api.Rec{Kind: kind, Txn: 1, Begin: at}
			for _, x := range list {
				e := api.OK
				if x.At == at {
					e = api.ErrNone
				}
				wantErr(t, "another kind", list, x.At, e)
			}
		}
	}
	// Of an RBegin nothing is asked but its kind and its place.
	odd := api.Entry{At: 30, R: api.Rec{Kind: api.RBegin, Txn: 5, Page: 6, Begin: 30, Before: "b", After: "a", Txns: txns(1, 2, 3), Pages: pages(1, 2)}}
	wantTold(t, "an odd RBegin", []api.Entry{odd}, 30, nil, nil)
	wantTold(t, "an odd RBegin", []api.Entry{odd}, 0, nil, nil)
}

func TestCheckIsTheFirstPlaceOrTheLast(t *testing.T) {
	list := []api.Entry{begin(10), up(20, 1, 2), begin(30)}
	wantTold(t, "the first", list, 10, txns(1, 20, 20), pages(2, 20))
	wantTold(t, "the last", list, 30, nil, nil)
	wantTold(t, "the only one", list[:1], 10, nil, nil)
	wantTold(t, "all", list, 0, txns(1, 20, 20), pages(2, 20))
	list = append(list, up(40, 2, 3))
	wantTold(t, "the last but one", list, 30, txns(2, 40, 40), pages(3, 40))
}

// P13.1: updates and undos.

func TestNothing(t *testing.T) {
	for _, list := range [][]api.Entry{nil, {}, {{}}, {begin(10)}, {commit(10, 1)}, {end(10, 1), end(20, 1)}, {up(-1, 1, 1)}} {
		wantTold(t, "nothing", list, 0, nil, nil)
	}
}

func TestChangesOfSeveral(t *testing.T) {
	list := []api.Entry{up(128, 3, 5), up(140, 1, 2), un(150, 3, 2), up(160, 1, 5), un(170, 2, 0), up(180, 3, 7), un(190, 2, 7)}
	all := [][2][]int{
		{{3, 128, 128}, {5, 128}},
		{{1, 140, 140, 3, 128, 128}, {2, 140, 5, 128}},
		{{1, 140, 140, 3, 128, 150}, {2, 140, 5, 128}},
		{{1, 140, 160, 3, 128, 150}, {2, 140, 5, 128}},
		{{1, 140, 160, 2, 170, 170, 3, 128, 150}, {0, 170, 2, 140, 5, 128}},
		{{1, 140, 160, 2, 170, 170, 3, 128, 180}, {0, 170, 2, 140, 5, 128, 7, 180}},
		{{1, 140, 160, 2, 170, 190, 3, 128, 180}, {0, 170, 2, 140, 5, 128, 7, 180}},
	}
	for i, x := range all {
		wantTold(t, "changes of several", list[:1+i], 0, txns(x[0]...), pages(x[1]...))
	}
	// Which of both kinds a change is makes no difference.
	for i := range list {
		c := slices.Clone(list)
		c[i].R.Kind = 3 - c[i].R.Kind
		x := all[len(all)-1]
		wantTold(t, "the other kind", c, 0, txns(x[0]...), pages(x[1]...))
	}
}

// What else a change has (Prev, Next, Begin, rows) is looked at by nobody.
func TestAChangeIsItsTxnAndItsPage(t *testing.T) {
	for _, kind := range []int{api.RUpdate, api.RUndo} {
		for _, n := range append(wild(), 20, 30) {
			list := []api.Entry{begin(20), {At: 30, R: api.Rec{Kind: kind, Txn: 1, Page: 2, Off: n, Prev: n, Next: n, Begin: n, Txns: txns(9, 9, 9), Pages: pages(9, 9)}}}
			wantTold(t, "a change", list, 20, txns(1, 30, 30), pages(2, 30))
			wantTold(t, "a change", list, 0, txns(1, 30, 30), pages(2, 30))
		}
	}
}

func TestCommitsAndEnds(t *testing.T) {
	for _, over := range []func(at, txn int) api.Entry{commit, end} {
		list := []api.Entry{up(10, 1, 1), up(20, 2, 2), over(30, 1), over(40, 3), over(50, 1), up(60, 1, 1), un(70, 1, 3), over(80, 2)}
		wantTold(t, "ahead", list[:2], 0, txns(1, 10, 10, 2, 20, 20), pages(1, 10, 2, 20))
		wantTold(t, "over", list[:3], 0, txns(2, 20, 20), pages(1, 10, 2, 20))
		wantTold(t, "none is over", list[:4], 0, txns(2, 20, 20), pages(1, 10, 2, 20))
		wantTold(t, "over again", list[:5], 0, txns(2, 20, 20), pages(1, 10, 2, 20))
		wantTold(t, "begun anew", list[:6], 0, txns(1, 60, 60, 2, 20, 20), pages(1, 10, 2, 20))
		wantTold(t, "begun anew", list[:7], 0, txns(1, 60, 70, 2, 20, 20), pages(1, 10, 2, 20, 3, 70))
		wantTold(t, "the other one", list, 0, txns(1, 60, 70), pages(1, 10, 2, 20, 3, 70))
		// That its Page is another one's makes no difference: an end is of no page.
		list[2].R.Page, list[2].R.Begin = 2, 10
		list[2].R.Txns, list[2].R.Pages = txns(7, 7, 7), pages(7, 7)
		wantTold(t, "the fields that it hasn't", list[:3], 0, txns(2, 20, 20), pages(1, 10, 2, 20))
	}
}

func TestKindsThatAreNone(t *testing.T) {
	kinds := []int{api.RBegin, 0, 7, 8, 9, -1, -2, -6, 255, 256 + 1, 256 + 2, 256 + 3, 256 + 6, 1<<32 + 1, 1<<32 + 2, 1<<32 + 4, 1<<32 + 6, math.MinInt, math.MaxInt}
	for _, kind := range kinds {
		r := api.Rec{Kind: kind, Txn: 1, Page: 3, Begin: 20, Txns: txns(1, 1, 99, 2, 2, 2), Pages: pages(1, 1, 2, 2)}
		list := []api.Entry{up(10, 1, 1), begin(20), up(30, 1, 1), {At: 40, R: r}}
		wantTold(t, "no kind", list, 20, txns(1, 30, 30), pages(1, 30))
		list[3].R.Begin = 0
		wantTold(t, "no kind", list, 0, txns(1, 10, 30), pages(1, 10))
	}
}

// Transactions and pages are any numbers, each one itself, and told rising.
func TestNumbersOfAllSizes(t *testing.T) {
	for seed := range 20 {
		d := dice(seed)
		var list []api.Entry
		for i, n := range wild() {
			list = append(list, up(100+i, n, n))
		}
		for i := range list { // in any order
			k := i + d.below(len(list)-i)
			list[i].R, list[k].R = list[k].R, list[i].R
		}
		got := alike(t, list, 0)
		if len(got.txns) != len(wild()) || len(got.pages) != len(wild()) {
			t.Fatalf("%+v of%s", got, shown(list))
		}
		for i, n := range wild() {
			if got.txns[i].Txn != n || got.pages[i].Page != n {
				t.Fatalf("%d stands elsewhere: %+v", n, got)
			}
			over := append(slices.Clone(list), end(200, n))
			left := alike(t, over, 0)
			if len(left.txns) != len(wild())-1 || slices.ContainsFunc(left.txns, func(x api.TxnRow) bool { return x.Txn == n }) {
				t.Fatalf("the end of %d: %+v", n, left)
			}
		}
	}
}

// A transaction's number and a page's have nothing to do with one another.
func TestTransactionsAndPagesApart(t *testing.T) {
	list := []api.Entry{up(10, 1, 2), up(20, 2, 1), commit(30, 1), tabs(40, 0, txns(2, 5, 6), nil), tabs(50, 0, nil, pages(2, 7))}
	wantTold(t, "apart", list, 0, txns(2, 5, 20), pages(1, 20, 2, 7))
}

func TestManyNumbers(t *testing.T) {
	const n = 1 << 14
	list := make([]api.Entry, n)
	want := told{txns: make([]api.TxnRow, n), pages: make([]api.PageRow, n)}
	for i := range n { // 5 is odd, so that each number comes up once
		txn, page := i*5%n, -i*5%n
		list[i] = up(1+i, txn, page)
		want.txns[txn] = api.TxnRow{Txn: txn, First: 1 + i, Last: 1 + i}
		want.pages[page+n-1] = api.PageRow{Page: page, Rec: 1 + i}
	}
	for range 3 {
		if got := tables(list, 0); !got.same(want) {
			t.Fatalf("%d transactions, %d pages, %d", len(got.txns), len(got.pages), got.e)
		}
	}
}

// P13.1: tables.

// A row of a transaction that has none is taken as it stands, also where its First is above its Last, or either is above the tables' own place.
func TestRowsThatAreNew(t *testing.T) {
	for _, check := range []int{0, 10} {
		for _, first := range wild() {
			for _, last := range wild() {
				list := []api.Entry{begin(10), tabs(20, check, txns(1, first, last), pages(2, first))}
				wantTold(t, "new rows", list, check, txns(1, first, last), pages(2, first))
				list = []api.Entry{begin(10), up(12, 1, 3), end(14, 1), tabs(20, check, txns(1, first, last), pages(2, last))}
				wantTold(t, "behind an end", list, check, txns(1, first, last), pages(2, last, 3, 12))
			}
		}
	}
}

// Of a row that is there and one of the tables, the lesser First and Rec, and the greater Last, each for itself.
func TestRowsThatAreThere(t *testing.T) {
	for _, check := range []int{0, 10} {
		for _, first := range append(wild(), 11, 12, 13) {
			for _, last := range append(wild(), 13, 14, 15) {
				list := []api.Entry{begin(10), up(12, 1, 3), un(14, 1, 3), tabs(20, check, txns(1, first, last), pages(3, first))}
				wantTold(t, "rows that are there", list, check, txns(1, min(first, 12), max(last, 14)), pages(3, min(first, 12)))
				// A change behind them: its place is the Last, be it lesser or greater, and no First or Rec.
				list = append(list, up(30, 1, 3))
				wantTold(t, "a change behind", list, check, txns(1, min(first, 12), 30), pages(3, min(first, 12)))
				list = []api.Entry{begin(10), tabs(20, check, txns(1, first, last), pages(3, last)), un(30, 1, 3)}
				wantTold(t, "a change behind", list, check, txns(1, first, 30), pages(3, last))
				list = append(list, commit(40, 1))
				wantTold(t, "an end behind", list, check, nil, pages(3, last))
			}
		}
	}
}

func TestTablesOfAnother(t *testing.T) {
	for _, begun := range append(wild(), 9, 10, 11, 12, 19, 20, 21, 29, 30, 31, 1<<32+20) {
		x := tabs(30, begun, txns(1, 1, 99, 4, 4, 4), pages(1, 1, 4, 4))
		list := []api.Entry{begin(10), up(12, 1, 1), begin(20), up(22, 1, 1), x, up(40, 2, 2)}
		for _, check := range []int{0, 10, 20} {
			first := map[int]int{0: 12, 10: 12, 20: 22}[check]
			if begun == check {
				wantTold(t, "its own", list, check, txns(1, 1, 99, 2, 40, 40, 4, 4, 4), pages(1, 1, 2, 40, 4, 4))
			} else {
				wantTold(t, "another's", list, check, txns(1, first, 22, 2, 40, 40), pages(1, first, 2, 40))
			}
		}
	}
	// Its own ones, ahead of it: they stand at a lesser place, and do nothing.
	list := []api.Entry{tabs(5, 10, txns(1, 1, 1), pages(1, 1)), begin(10), up(12, 2, 2)}
	wantTold(t, "ahead of the RBegin", list, 10, txns(2, 12, 12), pages(2, 12))
	// From 0 on, with an RBegin at the place 0, and without one.
	for _, r := range []api.Entry{begin(0), up(0, 3, 3)} {
		list = []api.Entry{tabs(-1, 0, txns(1, 1, 1), pages(1, 1)), r, tabs(5, 0, txns(2, 2, 3), pages(2, 2)), tabs(6, 5, txns(4, 4, 4), pages(4, 4))}
		got := alike(t, list, 0)
		if !slices.Contains(got.txns, api.TxnRow{Txn: 2, First: 2, Last: 3}) || !slices.Contains(got.pages, api.PageRow{Page: 2, Rec: 2}) {
			t.Fatalf("Begin 0 from 0 on: %+v", got)
		}
		if got.txns[0].Txn == 1 || got.txns[len(got.txns)-1].Txn == 4 || got.pages[0].Page == 1 {
			t.Fatalf("Begin 0 from 0 on: %+v", got)
		}
	}
}

func TestABeginWithoutTables(t *testing.T) {
	list := []api.Entry{up(10, 1, 1), up(12, 2, 2), begin(20), up(22, 2, 3), commit(24, 1), begin(30), tabs(40, 30, txns(2, 12, 22), pages(1, 10, 2, 12, 3, 22)), up(50, 4, 2)}
	wantTold(t, "none of its own", list, 20, txns(2, 22, 22, 4, 50, 50), pages(2, 50, 3, 22))
	wantTold(t, "the later one", list, 30, txns(2, 12, 22, 4, 50, 50), pages(1, 10, 2, 12, 3, 22))
	wantTold(t, "all", list, 0, txns(2, 12, 22, 4, 50, 50), pages(1, 10, 2, 12, 3, 22))
}

func TestTablesMoreThanOnce(t *testing.T) {
	list := []api.Entry{begin(10), tabs(20, 10, txns(1, 8, 9), pages(1, 8)), tabs(30, 10, txns(1, 7, 12, 2, 5, 5), pages(1, 9, 2, 5)), commit(40, 1), tabs(50, 10, txns(1, 8, 8, 2, 6, 4), pages(2, 4))}
	wantTold(t, "once", list[:2], 10, txns(1, 8, 9), pages(1, 8))
	wantTold(t, "twice", list[:3], 10, txns(1, 7, 12, 2, 5, 5), pages(1, 8, 2, 5))
	wantTold(t, "an end between", list[:4], 10, txns(2, 5, 5), pages(1, 8, 2, 5))
	wantTold(t, "three times", list, 10, txns(1, 8, 8, 2, 5, 5), pages(1, 8, 2, 4))
}

// Rows of one number more than once, in any order: as if each came in tables of its own.
func TestRowsMoreThanOnce(t *testing.T) {
	rows := [][]int{{3, 9, 9}, {1, 5, 6}, {3, 7, 8}, {1, 6, 7}, {2, 1, 1}, {3, 8, 11}}
	recs := [][]int{{3, 9}, {1, 5}, {3, 7}, {1, 6}, {2, 1}, {3, 8}}
	for seed := range 300 {
		d := dice(seed)
		for i := range rows {
			k := i + d.below(len(rows)-i)
			rows[i], rows[k] = rows[k], rows[i]
			recs[i], recs[k] = recs[k], recs[i]
		}
		list := []api.Entry{begin(10), tabs(20, 10, txns(slices.Concat(rows...)...), pages(slices.Concat(recs...)...))}
		wantTold(t, "in any order", list, 10, txns(1, 5, 7, 2, 1, 1, 3, 7, 11), pages(1, 5, 2, 1, 3, 7))
		list = append(list[:1], up(15, 3, 2), list[1])
		wantTold(t, "one that is there", list, 10, txns(1, 5, 7, 2, 1, 1, 3, 7, 15), pages(1, 5, 2, 1, 3, 7))
	}
}

// More rows than a log's record may have are rows as others are, also more than a byte can count.
func TestManyRows(t *testing.T) {
	for _, n := range []int{4, 5, 8, 9, 255, 256, 257, 1000} {
		var x []api.TxnRow
		var p []api.PageRow
		for i := range n {
			x = append(x, api.TxnRow{Txn: n - i, First: i + 1, Last: i + 2})
			p = append(p, api.PageRow{Page: i - n, Rec: i + 3})
		}
		list := []api.Entry{begin(10), tabs(20, 10, x, p)}
		got := tables(list, 10)
		slices.Reverse(x)
		if !got.same(told{txns: x, pages: p}) {
			t.Fatalf("%d rows: %d transactions, %d pages, %d", n, len(got.txns), len(got.pages), got.e)
		}
	}
}

func TestTablesWithoutRows(t *testing.T) {
	for _, x := range []api.Entry{tabs(20, 10, nil, nil), tabs(20, 10, []api.TxnRow{}, []api.PageRow{})} {
		list := []api.Entry{begin(10), up(15, 1, 2), x, up(25, 2, 3)}
		wantTold(t, "no rows", list, 10, txns(1, 15, 15, 2, 25, 25), pages(2, 15, 3, 25))
	}
	list := []api.Entry{begin(10), tabs(20, 10, txns(1, 5, 6), nil), tabs(30, 10, nil, pages(1, 4))}
	wantTold(t, "one of both", list, 10, txns(1, 5, 6), pages(1, 4))
	// What else tables have is looked at by nobody.
	list[1].R.Txn, list[1].R.Page, list[1].R.Prev, list[1].R.Next = 7, 7, 7, 7
	wantTold(t, "fields that it hasn't", list, 10, txns(1, 5, 6), pages(1, 4))
}

// P13.1: a checkpoint with the tables of its time.

func TestAheadBetweenAndBehind(t *testing.T) {
	list := []api.Entry{
		up(128, 1, 2), up(136, 2, 3), up(140, 3, 1), begin(150),
		un(155, 1, 4), up(160, 4, 0), end(165, 3), up(168, 5, 2),
		tabs(170, 150, txns(1, 128, 155, 2, 136, 136, 4, 160, 160, 5, 168, 168), pages(0, 160, 2, 128, 3, 136, 4, 155)),
		un(180, 1, 5), commit(190, 4), up(200, 2, 3), up(210, 6, 1),
	}
	wantTold(t, "a checkpoint", list, 150, txns(1, 128, 180, 2, 136, 200, 5, 168, 168, 6, 210, 210), pages(0, 160, 1, 210, 2, 128, 3, 136, 4, 155, 5, 180))
	wantTold(t, "all of it", list, 0, txns(1, 128, 180, 2, 136, 200, 5, 168, 168, 6, 210, 210), pages(0, 160, 1, 140, 2, 128, 3, 136, 4, 155, 5, 180))
	wantTold(t, "ahead of its tables", list[:8], 150, txns(1, 155, 155, 4, 160, 160, 5, 168, 168), pages(0, 160, 2, 168, 4, 155))
	// Tables in which a page that was written between is none: what changed it behind the RBegin keeps its row.
	list[8].R.Pages = pages(2, 168)
	wantTold(t, "pages that were written", list, 150, txns(1, 128, 180, 2, 136, 200, 5, 168, 168, 6, 210, 210), pages(0, 160, 1, 210, 2, 168, 3, 200, 4, 155, 5, 180))
	// A row of one that was over between is one like others.
	list[8].R.Txns = txns(3, 140, 140)
	wantTold(t, "one that is over", list, 150, txns(1, 155, 180, 2, 200, 200, 3, 140, 140, 5, 168, 168, 6, 210, 210), pages(0, 160, 1, 210, 2, 168, 3, 200, 4, 155, 5, 180))
}

// P13.2

func TestFrom(t *testing.T) {
	for _, check := range wild() {
		wantFrom(t, check, nil, 2147483647)
		wantFrom(t, check, []api.PageRow{}, 2147483647)
		for _, rec := range wild() { // one page, also beyond what a number of the log may be
			wantFrom(t, check, pages(3, rec), rec)
			wantFrom(t, check, pages(rec, 7), 7)
			for _, other := range wild() {
				wantFrom(t, check, pages(1, rec, 2, other), min(rec, other))
				wantFrom(t, check, pages(1, rec, 2, other, 0, rec, 2, math.MaxInt), min(rec, other))
			}
		}
	}
}

func TestHorizon(t *testing.T) {
	for _, check := range wild() {
		if check != 0 {
			wantHorizon(t, check, nil, nil, check)
			wantHorizon(t, check, []api.TxnRow{}, []api.PageRow{}, check)
		}
		for _, first := range wild() {
			for _, rec := range wild() {
				least := min(check, first, rec)
				if check == 0 { // then all of the log is needed, also if a row is below 0
					least = 0
				}
				wantHorizon(t, check, txns(1, first, -99), pages(2, rec), least)
				wantHorizon(t, check, txns(-5, math.MaxInt, -99, 1, first, -99), pages(-7, math.MaxInt, 2, rec), least)
				wantHorizon(t, check, txns(1, first, first, 1, math.MaxInt, math.MaxInt), pages(2, rec, 2, math.MaxInt), least)
			}
			if check != 0 {
				wantHorizon(t, check, txns(1, first, math.MinInt), nil, min(check, first))
				wantHorizon(t, check, nil, pages(math.MinInt, first), min(check, first))
			}
		}
	}
}

// The least one is found wherever it stands, of few rows and of many.
func TestRowsInAnyOrder(t *testing.T) {
	for n := 1; n <= 12; n++ {
		for i := range n {
			x, p := make([]api.TxnRow, n), make([]api.PageRow, n)
			for k := range n {
				x[k] = api.TxnRow{Txn: n - k, First: 500 + (i*7+k*5)%97, Last: k}
				p[k] = api.PageRow{Page: k * 3 % 8, Rec: 600 + (i*5+k*7)%89}
			}
			wantHorizon(t, 1000, x, p, slices.Min(firsts(x)))
			x[i].First, p[n-1-i].Rec = 100, 200
			wantFrom(t, 1000, p, 200)
			wantHorizon(t, 1000, x, p, 100)
			wantHorizon(t, 1000, nil, p, 200)
			wantHorizon(t, 99, x, p, 99)
			wantHorizon(t, 0, x, p, 0)
			p[i].Rec = -1
			wantFrom(t, 0, p, -1)
			wantHorizon(t, 1, x, p, -1)
			wantHorizon(t, 0, x, p, 0)
		}
	}
}

// P13.3

// world is a log as it is written, and what is true of its end: the transactions that aren't over, and the pages that a store lacks something of.
type world struct {
	list     []api.Entry
	open     map[int]api.TxnRow
	dirty    map[int]int
	under    int   // where the checkpoint that is under way began; 0: none
	complete []int // where those began that are ended
}

func newWorld() *world {
	return &world{open: map[int]api.TxnRow{}, dirty: map[int]int{}}
}

// next is the place of the next record: some places are left free, as sectors' ends are.
func (w *world) next() int {
	return 128 + 11*len(w.list)
}

func (w *world) change(x api.Entry) {
	w.list = append(w.list, x)
	row := w.open[x.R.Txn]
	if row.First == 0 {
		row.First = x.At
	}
	w.open[x.R.Txn] = api.TxnRow{Txn: x.R.Txn, First: row.First, Last: x.At}
	if w.dirty[x.R.Page] == 0 {
		w.dirty[x.R.Page] = x.At
	}
}

func (w *world) over(x api.Entry) {
	w.list = append(w.list, x)
	delete(w.open, x.R.Txn)
}

// check is the next step of a checkpoint: it begins, or it ends with the tables of its time.
func (w *world) check() {
	at := w.next()
	if w.under == 0 {
		w.list = append(w.list, begin(at))
		w.under = at
		return
	}
	x, p := w.rows()
	w.list = append(w.list, tabs(at, w.under, x, p))
	w.complete = append(w.complete, w.under)
	w.under = 0
}

// rows is what is true now, rising.
func (w *world) rows() (x []api.TxnRow, p []api.PageRow) {
	for _, txn := range slices.Sorted(maps.Keys(w.open)) {
		x = append(x, w.open[txn])
	}
	for _, page := range slices.Sorted(maps.Keys(w.dirty)) {
		p = append(p, api.PageRow{Page: page, Rec: w.dirty[page]})
	}
	return x, p
}

// step is one step more, as the dice fall.
func (w *world) step(d *dice) {
	txn, page := 1+d.below(4), d.below(8)
	switch d.below(12) {
	case 0, 1, 2, 3, 4:
		w.change(up(w.next(), txn, page))
	case 5, 6:
		w.change(un(w.next(), txn, page))
	case 7:
		w.over(commit(w.next(), txn))
	case 8:
		w.over(end(w.next(), txn))
	case 9:
		delete(w.dirty, page) // it is written
	default:
		w.check()
	}
}

// from is the list from a place on.
func (w *world) from(at int) []api.Entry {
	return slices.DeleteFunc(slices.Clone(w.list), func(x api.Entry) bool { return x.At < at })
}

// knows holds what is told, from each checkpoint that is ended, against what is true.
func (w *world) knows(t *testing.T) {
	t.Helper()
	open, dirty := w.rows()
	for _, check := range append([]int{0}, w.complete...) {
		got := alike(t, w.list, check)
		if !slices.Equal(got.txns, open) || got.e != api.OK {
			t.Fatalf("check %d of%s\n%+v, not %v", check, shown(w.list), got, open)
		}
		from, horizon := analysis.From(check, got.pages), analysis.Horizon(check, got.txns, got.pages)
		for _, p := range dirty { // each page that lacks something is told, with a record that is none too late
			i := slices.IndexFunc(got.pages, func(q api.PageRow) bool { return q.Page == p.Page })
			if i < 0 || got.pages[i].Rec > p.Rec || from > p.Rec || horizon > p.Rec {
				t.Fatalf("check %d, From %d, Horizon %d: %v, not %v:%s", check, from, horizon, got.pages, dirty, shown(w.list))
			}
		}
		for _, row := range open {
			if horizon > row.First {
				t.Fatalf("check %d, Horizon %d: %v:%s", check, horizon, open, shown(w.list))
			}
		}
		if rest := alike(t, w.from(horizon), check); !rest.same(got) { // what is ahead of the horizon may go
			t.Fatalf("check %d, from %d on: %+v, not %+v:%s", check, horizon, rest, got, shown(w.list))
		}
		if check != 0 { // nor is what is ahead of the checkpoint looked at
			if rest := alike(t, w.from(check), check); !rest.same(got) {
				t.Fatalf("from the checkpoint %d on: %+v, not %+v:%s", check, rest, got, shown(w.list))
			}
		}
	}
}

func TestBehindACheckpointTheSameIsTold(t *testing.T) {
	checkpoints := 0
	for seed := range 400 {
		d := dice(seed)
		w := newWorld()
		for range 60 {
			w.step(&d)
		}
		w.knows(t)
		checkpoints += len(w.complete)
	}
	if checkpoints < 800 {
		t.Errorf("%d checkpoints only", checkpoints)
	}
}

// At each place of a log the power may go: what was under way there is told, too.
func TestAtEachPlace(t *testing.T) {
	for seed := range 60 {
		d := dice(seed)
		w := newWorld()
		for range 40 {
			w.step(&d)
			w.knows(t)
		}
	}
}

// A transaction that is over leaves no row, whatever it did, and wherever its records stand.
func TestNothingOfOneThatIsOver(t *testing.T) {
	for seed := range 300 {
		d := dice(seed)
		w := newWorld()
		for range 40 {
			w.step(&d)
		}
		for txn := range 6 {
			x := []func(at, txn int) api.Entry{commit, end}[d.below(2)](w.next(), txn)
			list := append(slices.Clone(w.list), x)
			for _, check := range append([]int{0}, w.complete...) {
				ahead, got := alike(t, w.list, check), alike(t, list, check)
				want := slices.DeleteFunc(slices.Clone(ahead.txns), func(row api.TxnRow) bool { return row.Txn == txn })
				if !slices.Equal(got.txns, want) || !slices.Equal(got.pages, ahead.pages) {
					t.Fatalf("%d is over, check %d of%s\n%+v", txn, check, shown(list), got)
				}
				list := append(slices.Clone(list), up(x.At+5, txn, 3)) // and what it does anew is its first
				got = alike(t, list, check)
				if !slices.Contains(got.txns, api.TxnRow{Txn: txn, First: x.At + 5, Last: x.At + 5}) {
					t.Fatalf("%d begins anew, check %d of%s\n%+v", txn, check, shown(list), got)
				}
			}
		}
	}
}

// The rules that hold everywhere.

func TestWhatIsHandedInStaysAsItIs(t *testing.T) {
	d := dice(5)
	for n := range 400 {
		list := thrownList(&d, 1+n%12)
		for i := range list { // spare room behind the rows
			list[i].R.Txns = append(slices.Clip(list[i].R.Txns), txns(9, 9, 9, 8, 8, 8)...)[:len(list[i].R.Txns)]
			list[i].R.Pages = append(slices.Clip(list[i].R.Pages), pages(9, 9, 8, 8)...)[:len(list[i].R.Pages)]
		}
		room := append(slices.Clip(list), up(1, 2, 3), up(4, 5, 6))
		was := wholly(room)
		for _, x := range list {
			alike(t, room[:len(list)], x.At)
		}
		alike(t, room[:len(list)], 0)
		if is := wholly(room); !slices.EqualFunc(is, was, sameEntry) {
			t.Fatalf("the list was%s\nand is%s", shown(was), shown(is))
		}
	}
}

// wholly is a list with memory of its own, in which rows have their spare room too.
func wholly(list []api.Entry) []api.Entry {
	c := slices.Clone(list)
	for i := range c {
		c[i].R.Txns = c[i].R.Txns[:cap(c[i].R.Txns)]
		c[i].R.Pages = c[i].R.Pages[:cap(c[i].R.Pages)]
	}
	return copied(c)
}

func TestRowsHandedInStayAsTheyAre(t *testing.T) {
	x, p := txns(3, 5, 9, 1, 7, 2, 3, 4, 1, 2, 2, 2), pages(7, 3, 0, 9, 7, 1, 2, 2)
	for n := range 5 {
		for _, check := range []int{0, 1, 3, 99, -1} {
			wantFrom(t, check, p[:n], plainFrom(p[:n]))
			wantHorizon(t, check, x[:n], p[:n], plainHorizon(check, x[:n], p[:n]))
		}
	}
	if !slices.Equal(x, txns(3, 5, 9, 1, 7, 2, 3, 4, 1, 2, 2, 2)) || !slices.Equal(p, pages(7, 3, 0, 9, 7, 1, 2, 2)) {
		t.Fatalf("%v, %v", x, p)
	}
}

func TestAnswersAreNewMemory(t *testing.T) {
	lists := [][]api.Entry{
		{begin(30), tabs(40, 30, txns(1, 10, 10, 2, 20, 20), pages(0, 10, 1, 20))}, // they could be handed on as they stand
		five(),
	}
	for _, list := range lists {
		was := copied(list)
		a, b, want := tables(list, 30), tables(list, 30), plainTables(list, 30)
		a.txns, a.pages = a.txns[:cap(a.txns)], a.pages[:cap(a.pages)]
		for i := range a.txns {
			a.txns[i] = api.TxnRow{Txn: -7, First: -7, Last: -7}
		}
		for i := range a.pages {
			a.pages[i] = api.PageRow{Page: -7, Rec: -7}
		}
		if !b.same(want) || !slices.EqualFunc(list, was, sameEntry) {
			t.Fatalf("another answer: %+v of%s", b, shown(list))
		}
		alike(t, list, 30)
		for i := range list { // nor is the list kept, or a row of it
			for k := range list[i].R.Txns {
				list[i].R.Txns[k] = api.TxnRow{Txn: -9}
			}
			for k := range list[i].R.Pages {
				list[i].R.Pages[k] = api.PageRow{Page: -9}
			}
			list[i] = up(-9-i, 9, 9)
		}
		if !b.same(want) {
			t.Fatalf("behind a change of the list: %+v", b)
		}
	}
}

// A list is one with what it has: a longer list's beginning is told as a list of its own, and each time the same.
func TestAListIsWhatItHas(t *testing.T) {
	list := five()
	for n := range 6 {
		for _, check := range []int{0, 10, 20, 30, 40, 50} {
			want := tables(copied(list[:n]), check)
			for range 5 {
				if got := tables(list[:n], check); !got.same(want) {
					t.Fatalf("%d of five, check %d: %+v, not %+v", n, check, got, want)
				}
			}
			alike(t, list[:n], check)
		}
	}
}
