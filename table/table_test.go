package table_test

import (
	"fmt"
	"math"
	"slices"
	"testing"

	"careen/api"
	"careen/table"
)

// rows calls f with each row of n calls of a list.
func rows(list []call, n int, f func(row []call)) {
	row := make([]call, n)
	var lay func(k int)
	lay = func(k int) {
		if k == n {
			f(row)
			return
		}
		for _, c := range list {
			row[k] = c
			lay(k + 1)
		}
	}
	lay(0)
}

// orders is each order of the numbers below n.
func orders(n int) [][]int {
	if n == 0 {
		return [][]int{nil}
	}
	var list [][]int
	for _, ahead := range orders(n - 1) {
		for k := range n {
			list = append(list, slices.Insert(slices.Clone(ahead), k, n-1))
		}
	}
	return list
}

// dice is numbers that look thrown, the same ones each time.
type dice uint64

func (d *dice) below(n int) int {
	*d = *d*6364136223846793005 + 1442695040888963407
	return int(uint64(*d) >> 33 % uint64(n))
}

// The chapter's example.

func TestExample(t *testing.T) {
	x := table.New()
	want(t, "Begin", x.Begin(1), api.OK)
	want(t, "Log", x.Log(1, 128), api.OK)
	want(t, "Left", x.Left(1, 1), api.OK)
	wantMark(t, "one change stands", x, 1, 1, 0)
	want(t, "Log", x.Log(1, 160), api.OK)
	want(t, "Left", x.Left(1, 1), api.OK)
	wantNeed(t, "two changes stand", x.Need(), 3)
	wantBack(t, "at the mark", x, 1, 0, 128, 1)
}

// All promises, over many orders of the calls.

// Each row of six calls that begins one transaction: records, changes, marks, Back, End, and Begin again.
func TestEachRowOfOneTransaction(t *testing.T) {
	for _, txn := range []int{1, last} {
		list := []call{{"Begin", txn, 0}, {"Log", txn, 5}, {"Log", txn, 6}, {"Left", txn, 1}, {"Left", txn, -1}, {"Mark", txn, 0}, {"Mark", txn, 1}, {"Back", txn, 0}, {"Back", txn, 1}, {"End", txn, 0}}
		for n := range 6 {
			rows(list, n, func(row []call) {
				b := born()
				b.begin(t, txn)
				for _, c := range row {
					b.do(t, c)
				}
				b.alike(t, "behind a row", txn, 2)
			})
		}
	}
}

// Each row of five calls of two transactions: none touches what the other one has.
func TestEachRowOfTwoTransactions(t *testing.T) {
	var list []call
	for _, txn := range []int{2, 1} {
		list = append(list, call{"Begin", txn, 0}, call{"Log", txn, 4 + txn}, call{"Left", txn, txn}, call{"Mark", txn, 0}, call{"Mark", txn, txn}, call{"Back", txn, 0}, call{"End", txn, 0})
	}
	for n := range 4 {
		rows(list, n, func(row []call) {
			b := born()
			b.begin(t, 2)
			b.begin(t, 1)
			for _, c := range row {
				b.do(t, c)
			}
			b.alike(t, "behind a row, both there", 1, 2, 3)
		})
	}
	for n := range 5 {
		rows(list, n, func(row []call) {
			b := born()
			for _, c := range row {
				b.do(t, c)
			}
			b.alike(t, "behind a row", 1, 2, 3)
		})
	}
}

// Each row of begins and ends of five transactions, so that there are four, and would be a fifth one.
func TestEachRowOfBeginsAndEnds(t *testing.T) {
	txns := []int{last, 3, 1, 1 << 20, 2}
	var list []call
	for _, txn := range txns {
		list = append(list, call{"Begin", txn, 0})
	}
	list = append(list, call{"End", last, 0}, call{"End", 1, 0})
	for n := range 7 {
		rows(list, n, func(row []call) {
			b := born()
			for _, c := range row {
				if b.do(t, c) == api.OK && c.name == "Begin" {
					b.log(t, c.txn, c.txn)
				}
			}
			b.same(t, "behind begins and ends", txns...)
		})
	}
}

// thrown is a call as the dice fall, one that is likely to be right where the transaction is there.
func (b *twins) thrown(d *dice, txns []int) call {
	txn := txns[d.below(len(txns))]
	row, left, _ := b.p.row(txn)
	switch d.below(13) {
	case 0, 1:
		return call{"Begin", txn, 0}
	case 2, 3, 4:
		return call{"Log", txn, row.Last - 1 + d.below(40)}
	case 5, 6:
		return call{"Left", txn, d.below(9) - 3}
	case 7:
		return call{"Left", txn, d.below(2*most) - most}
	case 8, 9:
		return call{"Mark", txn, left + d.below(8)/7}
	case 10, 11:
		return call{"Back", txn, d.below(6) - 1}
	}
	if d.below(3) == 0 {
		return call{"End", txn, 0}
	}
	return call{"Mark", txn, left}
}

func TestLongRows(t *testing.T) {
	met := map[string]int{}
	for n := range 30 {
		d := dice(n)
		txns := []int{3, 1, last, 2, 1 << 20, last - 1}[:1+n%6]
		b := born()
		for range 3000 {
			c := b.thrown(&d, txns)
			e := b.do(t, c)
			met[fmt.Sprintf("%s %d", c.name, e)]++
			b.same(t, "amid a long row", append([]int{4}, txns...)...)
			if i := b.p.at(c.txn); i >= 0 && len(b.p[i].places) > 500 { // the plain one is slow with many
				b.end(t, c.txn)
			}
		}
		b.alike(t, "behind a long row", txns...)
	}
	for _, s := range []string{"Begin 0", "Begin 9", "Begin 5", "Log 0", "Log 1", "Log 7", "Mark 0", "Mark 1", "Mark 5", "Mark 7", "Back 0", "Back 7", "Left 0", "Left 1", "Left 7", "End 0", "End 7"} {
		if met[s] < 20 {
			t.Errorf("%s was met %d times only", s, met[s])
		}
	}
}

// P10.1

func TestThereAreNoneAtFirst(t *testing.T) {
	b := born()
	b.alike(t, "a new table", append(noTxns(), 1, 2, last-1, last)...)
	wantRows(t, "a new table", b.x.Rows())
	wantNeed(t, "a new table", b.x.Need(), 0)
	if table.New() == nil {
		t.Fatal("New answers nil")
	}
}

func TestABegunOneHasNothing(t *testing.T) {
	for _, txn := range []int{1, 2, 3, 1 << 16, 1 << 30, last - 1, last} {
		b := born()
		want(t, "Begin", b.begin(t, txn), api.OK)
		wantRow(t, "begun", b.x, api.TxnRow{Txn: txn}, 0)
		wantRows(t, "begun", b.x.Rows())
		wantNeed(t, "begun", b.x.Need(), 1)
		_, e := b.back(t, txn, 0)
		want(t, "Back at its mark 0", e, api.ErrNone)
		b.alike(t, "begun", append(noTxns(), 1, 2, last-1, last, txn)...)
	}
}

func TestBeginRefusesWrongNumbers(t *testing.T) {
	for n := range 5 { // of a table with that many: ErrArg comes ahead of ErrFull
		b := born()
		for k := range n {
			want(t, "Begin", b.begin(t, k+1), api.OK)
		}
		for _, txn := range noTxns() {
			want(t, fmt.Sprintf("Begin(%d)", txn), b.begin(t, txn), api.ErrArg)
			b.same(t, fmt.Sprintf("behind Begin(%d)", txn), txn, 1, 2, 3, 4, 5)
		}
	}
}

func TestBeginRefusesASecondTime(t *testing.T) {
	for n := 1; n <= 4; n++ { // the fourth time the table is full: ErrOnce comes ahead of ErrFull
		b := full(t, n)
		for range 2 {
			for _, txn := range fours()[:n] {
				want(t, fmt.Sprintf("Begin(%d), of %d", txn, n), b.begin(t, txn), api.ErrOnce)
				b.same(t, "behind a second Begin", fours()...)
			}
		}
		b.alike(t, "behind second Begins", fours()...)
	}
}

// fours is four transactions, in no order.
func fours() []int {
	return []int{last, 2, 1 << 20, 1}
}

// full is twins with the first n of the four, each with records, changes and marks of its own.
func full(t *testing.T, n int) *twins {
	t.Helper()
	b := born()
	for k, txn := range fours()[:n] {
		want(t, "Begin", b.begin(t, txn), api.OK)
		for i := range 4 - k {
			want(t, "Log", b.log(t, txn, 128*(k+1)+16*i), api.OK)
			want(t, "Left", b.change(t, txn, 3), api.OK)
			if _, e := b.mark(t, txn, 3*i+3); e != api.OK {
				t.Fatalf("Mark: %d", e)
			}
		}
	}
	return b
}

func TestFourAreThereAndNoFifth(t *testing.T) {
	b := full(t, 4)
	for _, txn := range []int{3, 4, 5, last - 1} {
		want(t, "a fifth one", b.begin(t, txn), api.ErrFull)
		b.same(t, "behind a fifth one", append(fours(), txn)...)
	}
	for _, gone := range fours() { // for each that ends another one may begin, and no more
		b := full(t, 4)
		want(t, "End", b.end(t, gone), api.OK)
		want(t, "in its stead", b.begin(t, 5), api.OK)
		want(t, "the ended one again", b.begin(t, gone), api.ErrFull)
		want(t, "one more", b.begin(t, 6), api.ErrFull)
		wantRow(t, "in its stead", b.x, api.TxnRow{Txn: 5}, 0)
		b.alike(t, "in its stead", append(fours(), 5, 6)...)
	}
}

func TestManyComeAndGo(t *testing.T) {
	b := born()
	for txn := 1; txn <= 3000; txn++ {
		want(t, "Begin", b.begin(t, txn), api.OK)
		want(t, "Log", b.log(t, txn, 128*txn), api.OK)
		want(t, "Left", b.change(t, txn, txn%7), api.OK)
		if txn > 3 {
			want(t, "End", b.end(t, txn-3), api.OK)
		}
		b.same(t, "come and go", txn-4, txn-3, txn-2, txn-1, txn, txn+1)
	}
}

func TestWhoIsEndedBeginsWithNothing(t *testing.T) {
	for _, txn := range fours() {
		b := full(t, 4)
		want(t, "End", b.end(t, txn), api.OK)
		want(t, "Begin", b.begin(t, txn), api.OK)
		wantRow(t, "begun again", b.x, api.TxnRow{Txn: txn}, 0)
		for n := range 4 {
			_, e := b.back(t, txn, n)
			want(t, "a mark of its earlier life", e, api.ErrNone)
		}
		want(t, "a place below those of its earlier life", b.log(t, txn, 1), api.OK)
		wantRow(t, "begun again", b.x, api.TxnRow{Txn: txn, First: 1, Last: 1}, 0)
		wantMark(t, "begun again", b.x, txn, 0, 0)
		wantBack(t, "begun again", b.x, txn, 0, 1, 0)
	}
}

// absent is each call of a transaction that isn't there.
func absent(t *testing.T, x *table.Table, txn int, e api.Errno) {
	t.Helper()
	for _, k := range wild() {
		want(t, fmt.Sprintf("Log(%d, %d)", txn, k), x.Log(txn, k), e)
		want(t, fmt.Sprintf("Left(%d, %d)", txn, k), x.Left(txn, k), e)
		if n, got := x.Mark(txn, k); n != 0 || got != e {
			t.Fatalf("Mark(%d, %d): %d, %d, not %d", txn, k, n, got, e)
		}
		if at, left, got := x.Back(txn, k); at != 0 || left != 0 || got != e {
			t.Fatalf("Back(%d, %d): %d, %d, %d, not %d", txn, k, at, left, got, e)
		}
	}
	want(t, fmt.Sprintf("End(%d)", txn), x.End(txn), e)
	if row, left, got := x.Row(txn); row != (api.TxnRow{}) || left != 0 || got != e {
		t.Fatalf("Row(%d): %v, %d, %d, not %d", txn, row, left, got, e)
	}
}

func TestWhoIsNotThereIsErrNone(t *testing.T) {
	for n := range 5 {
		b := full(t, n)
		for _, txn := range append(noTxns(), 3, 4, 5, last-1, 1<<20+1) {
			absent(t, b.x, txn, api.ErrNone)
		}
		for _, txn := range fours()[n:] {
			absent(t, b.x, txn, api.ErrNone)
		}
		b.alike(t, "behind calls of those that aren't there", append(fours(), 3)...)
	}
	b := full(t, 4)
	for k, txn := range fours() { // nor are those that are ended
		want(t, "End", b.end(t, txn), api.OK)
		for _, gone := range fours()[:k+1] {
			absent(t, b.x, gone, api.ErrNone)
		}
		b.same(t, "behind calls of ended ones", fours()...)
	}
}

// P10.2

func TestTheFirstRecordAndLaterOnes(t *testing.T) {
	b := born()
	b.begin(t, 7)
	for k, at := range []int{1, 2, 127, 128, 160, 161, last - 1, last, last + 1, 1 << 40, math.MaxInt - 1, math.MaxInt} {
		for _, below := range []int{at - 1, at - 2, 0, -1, -at, math.MinInt} {
			_, e := b.p.log(7, below)
			if e == api.OK {
				continue
			}
			want(t, "a place that isn't above the last one", b.log(t, 7, below), api.ErrArg)
			b.same(t, "behind a refused place", 7)
		}
		want(t, fmt.Sprintf("Log(7, %d)", at), b.log(t, 7, at), api.OK)
		wantRow(t, "logged", b.x, api.TxnRow{Txn: 7, First: 1, Last: at}, 0)
		wantRows(t, "logged", b.x.Rows(), api.TxnRow{Txn: 7, First: 1, Last: at})
		wantNeed(t, "records alone are no changes", b.x.Need(), 1)
		want(t, "the same place again", b.log(t, 7, at), api.ErrArg)
		b.same(t, fmt.Sprintf("behind %d records", k+1), 7, 8)
	}
	for _, at := range wild() {
		want(t, "above the greatest number", b.log(t, 7, at), api.ErrArg)
	}
	b.alike(t, "at the greatest number", 7)
}

func TestAPlaceNextToTheLastOne(t *testing.T) {
	for _, at := range []int{1, 2, 3, 100, 128, 1 << 16, last, 1<<32 + 1} {
		for d := -2; d <= 2; d++ {
			for first := range 2 { // with the record alone, and with one ahead of it
				b := born()
				b.begin(t, 1)
				if first == 1 && at > 1 {
					want(t, "the first one", b.log(t, 1, 1), api.OK)
				}
				want(t, "the last one", b.log(t, 1, at), api.OK)
				e := api.OK
				if d <= 0 {
					e = api.ErrArg
				}
				want(t, fmt.Sprintf("Log behind %d, at %d", at, at+d), b.log(t, 1, at+d), e)
				b.alike(t, "next to the last one", 1, 2)
			}
		}
	}
}

func TestTheFirstPlaceIsAboveNone(t *testing.T) {
	for _, at := range append(wild(), 6, 7) {
		b := born()
		b.begin(t, 1)
		e := api.OK
		if at < 1 {
			e = api.ErrArg
		}
		want(t, fmt.Sprintf("Log(1, %d)", at), b.log(t, 1, at), e)
		b.same(t, "behind the first place", 1)
		if e == api.OK {
			wantRow(t, "the first one is the last one", b.x, api.TxnRow{Txn: 1, First: at, Last: at}, 0)
			continue
		}
		wantRow(t, "refused", b.x, api.TxnRow{Txn: 1}, 0)
		wantRows(t, "refused", b.x.Rows())
	}
}

// Each transaction has places of its own: those of others are no bound, nor those of marks.
func TestPlacesAreEachOnesOwn(t *testing.T) {
	b := born()
	b.begin(t, 1)
	b.begin(t, 2)
	want(t, "1", b.log(t, 1, 1000), api.OK)
	want(t, "2, below it", b.log(t, 2, 10), api.OK)
	want(t, "2, the same place", b.log(t, 2, 1000), api.OK)
	want(t, "1, above", b.log(t, 1, 1001), api.OK)
	b.mark(t, 1, 0)
	b.log(t, 1, 2000)
	b.back(t, 1, 0)
	wantRow(t, "Back leaves the last record", b.x, api.TxnRow{Txn: 1, First: 1000, Last: 2000}, 0)
	want(t, "a place behind the mark's", b.log(t, 1, 1500), api.ErrArg)
	want(t, "a place behind the last one", b.log(t, 1, 2001), api.OK)
	b.alike(t, "both", 1, 2)
}

func TestLeftAtItsBounds(t *testing.T) {
	for _, stand := range []int{0, 1, 2, 1000, most / 2, most - 1, most} {
		for _, d := range append(wild(), -stand-1, -stand, 1-stand, most-stand-1, most-stand, most-stand+1, math.MaxInt-stand, math.MaxInt-stand+1, math.MinInt+stand) {
			b := born()
			b.begin(t, 1)
			b.begin(t, 2)
			want(t, "Left", b.change(t, 1, stand), api.OK)
			want(t, "Left", b.change(t, 2, 5), api.OK)
			e := b.change(t, 1, d)
			b.alike(t, fmt.Sprintf("%d stand, Left(1, %d): %d", stand, d, e), 1, 2)
		}
	}
}

func TestLeftComesToItsBounds(t *testing.T) {
	b := born()
	b.begin(t, 1)
	want(t, "one fewer than none", b.change(t, 1, -1), api.ErrArg)
	wantNeed(t, "none", b.x.Need(), 1)
	want(t, "2^20", b.change(t, 1, most), api.OK)
	wantRow(t, "2^20", b.x, api.TxnRow{Txn: 1}, most)
	want(t, "one more", b.change(t, 1, 1), api.ErrArg)
	want(t, "none more", b.change(t, 1, 0), api.OK)
	wantRow(t, "2^20 still", b.x, api.TxnRow{Txn: 1}, most)
	want(t, "one fewer", b.change(t, 1, -1), api.OK)
	want(t, "two more", b.change(t, 1, 2), api.ErrArg)
	want(t, "one more", b.change(t, 1, 1), api.OK)
	want(t, "one fewer than none", b.change(t, 1, -most-1), api.ErrArg)
	want(t, "none", b.change(t, 1, -most), api.OK)
	wantRow(t, "none", b.x, api.TxnRow{Txn: 1}, 0)
	want(t, "none fewer", b.change(t, 1, 0), api.OK)
	want(t, "one fewer than none", b.change(t, 1, -1), api.ErrArg)
	b.alike(t, "none", 1)
}

// P10.3

func TestMarksHaveWhatThereWas(t *testing.T) {
	b := born()
	b.begin(t, 1)
	wantMark(t, "ahead of any record", b.x, 1, 0, 0)
	b.p, _, _ = b.p.mark(1, 0)
	b.log(t, 1, 128)
	b.change(t, 1, 2)
	wantMark(t, "behind a record", b.x, 1, 2, 1)
	b.p, _, _ = b.p.mark(1, 2)
	wantMark(t, "the same again", b.x, 1, 2, 2)
	b.p, _, _ = b.p.mark(1, 2)
	b.log(t, 1, 160)
	b.change(t, 1, -1)
	wantMark(t, "behind another one", b.x, 1, 1, 3)
	b.p, _, _ = b.p.mark(1, 1)
	b.same(t, "four marks", 1)
	b.log(t, 1, 200)
	b.change(t, 1, 100)
	wantBack(t, "the last one", b.x, 1, 3, 160, 1)
	wantBack(t, "the one ahead", b.x, 1, 2, 128, 2)
	wantBack(t, "and the one ahead", b.x, 1, 1, 128, 2)
	wantBack(t, "the first one, without a record", b.x, 1, 0, 0, 0)
	wantRow(t, "Back changes neither records nor changes", b.x, api.TxnRow{Txn: 1, First: 128, Last: 200}, 101)
	wantNeed(t, "Back changes neither records nor changes", b.x.Need(), 102)
}

// marked is twins in which 1 has n marks, and 2 has two of its own; each mark has another place and another number of changes.
func marked(t *testing.T, n int) *twins {
	t.Helper()
	b := born()
	b.begin(t, 2)
	b.begin(t, 1)
	for k := range 2 {
		b.log(t, 2, 1000+k)
		b.mark(t, 2, 0)
	}
	for k := range n {
		if k > 0 { // the first one is ahead of any record
			b.log(t, 1, 100*k)
		}
		b.change(t, 1, 5)
		if got, e := b.mark(t, 1, 5*k+5); got != k || e != api.OK {
			t.Fatalf("the mark %d: %d, %d", k, got, e)
		}
	}
	b.log(t, 1, 900)
	b.change(t, 1, 3)
	return b
}

func TestAFifthMarkIsRefused(t *testing.T) {
	b := marked(t, 4)
	for range 2 {
		_, e := b.mark(t, 1, 23)
		want(t, "a fifth mark", e, api.ErrFull)
		_, e = b.mark(t, 1, 22)
		want(t, "a fifth mark, and a left that isn't", e, api.ErrArg)
		b.same(t, "behind a fifth mark", 1, 2)
	}
	if n, e := b.mark(t, 2, 0); n != 2 || e != api.OK {
		t.Fatalf("another one's mark: %d, %d", n, e)
	}
	b.alike(t, "behind a fifth mark", 1, 2)
}

func TestBackAtEachMark(t *testing.T) {
	for have := range 5 {
		for n := range have {
			b := marked(t, have)
			at := 100 * n
			for range 2 { // the mark stays
				wantBack(t, fmt.Sprintf("%d marks", have), b.x, 1, n, at, 5*n+5)
			}
			b.p, _, _ = b.p.back(1, n)
			for k := n + 1; k < 6; k++ {
				_, e := b.back(t, 1, k)
				want(t, fmt.Sprintf("the mark %d behind Back at %d", k, n), e, api.ErrNone)
			}
			first := 900
			if have > 1 {
				first = 100
			}
			wantRow(t, "behind Back", b.x, api.TxnRow{Txn: 1, First: first, Last: 900}, 5*have+3)
			// The next marks have the numbers behind it, up to the fourth one.
			for k := n + 1; k < 4; k++ {
				b.log(t, 1, 900+k)
				if got, e := b.mark(t, 1, 5*have+3); got != k || e != api.OK {
					t.Fatalf("the next mark behind Back at %d: %d, %d, not %d", n, got, e, k)
				}
			}
			_, e := b.mark(t, 1, 5*have+3)
			want(t, "a fifth mark behind Back", e, api.ErrFull)
			b.alike(t, fmt.Sprintf("behind Back at %d of %d", n, have), 1, 2)
		}
	}
}

func TestBackAtWrongMarks(t *testing.T) {
	for have := range 5 {
		b := marked(t, have)
		for _, n := range append(wild(), -1, -have, have, have+1, 1<<32+have-1, math.MinInt+have-1) {
			if n >= 0 && n < have {
				continue
			}
			_, e := b.back(t, 1, n)
			want(t, fmt.Sprintf("Back(1, %d) of %d marks", n, have), e, api.ErrNone)
			b.same(t, "behind a wrong mark", 1, 2)
		}
		b.alike(t, "behind wrong marks", 1, 2)
	}
}

func TestMarkWithAnotherLeft(t *testing.T) {
	for have := range 5 {
		b := marked(t, have)
		stand := 5*have + 3
		for _, left := range append(wild(), stand-1, stand+1, -stand, 0, 1<<32+stand, math.MinInt+stand) {
			if left == stand {
				continue
			}
			n, e := b.mark(t, 1, left)
			if n != 0 || e != api.ErrArg {
				t.Fatalf("Mark(1, %d), %d stand: %d, %d", left, stand, n, e)
			}
			b.same(t, "behind a wrong left", 1, 2)
		}
		b.alike(t, "behind wrong lefts", 1, 2)
	}
}

func TestMarksOfManyChanges(t *testing.T) {
	b := born()
	b.begin(t, 1)
	for k, stand := range []int{most, 0, most - 1, 1} {
		_, left, _ := b.p.row(1)
		b.change(t, 1, stand-left)
		b.log(t, 1, math.MaxInt-4+k)
		if n, e := b.mark(t, 1, stand); n != k || e != api.OK {
			t.Fatalf("Mark(1, %d): %d, %d", stand, n, e)
		}
	}
	wantBack(t, "the last one", b.x, 1, 3, math.MaxInt-1, 1)
	b.alike(t, "many changes", 1)
	wantBack(t, "the first one", b.x, 1, 0, math.MaxInt-4, most)
}

// P10.4

func TestEndLeavesTheOthers(t *testing.T) {
	for _, order := range orders(4) {
		b := full(t, 4)
		for k, i := range order {
			want(t, "End", b.end(t, fours()[i]), api.OK)
			want(t, "End again", b.end(t, fours()[i]), api.ErrNone)
			b.same(t, fmt.Sprintf("%d are ended", k+1), fours()...)
			if len(b.x.Rows()) != 3-k {
				t.Fatalf("%d are ended: %v", k+1, b.x.Rows())
			}
		}
		wantNeed(t, "all are ended", b.x.Need(), 0)
		wantRows(t, "all are ended", b.x.Rows())
		b.alike(t, "all are ended", fours()...)
	}
	for _, gone := range fours() { // the marks of those that stay are there too
		b := full(t, 4)
		b.end(t, gone)
		b.alike(t, "one is ended", fours()...)
	}
}

func TestRowsRise(t *testing.T) {
	txns := []int{1, 2, 1 << 20, last}
	for _, order := range orders(4) {
		for have := range 1 << 4 { // those that have a record
			b := born()
			for _, i := range order {
				want(t, "Begin", b.begin(t, txns[i]), api.OK)
			}
			var list []api.TxnRow
			for i, txn := range txns {
				b.change(t, txn, i)
				if have>>i&1 != 0 {
					b.log(t, txn, 500-100*i)
					b.log(t, txn, 1000-100*i)
					list = append(list, api.TxnRow{Txn: txn, First: 500 - 100*i, Last: 1000 - 100*i})
				}
			}
			for range 5 { // a map is told in another order each time
				wantRows(t, fmt.Sprintf("begun in the order %v", order), b.x.Rows(), list...)
			}
			wantNeed(t, "those without records too", b.x.Need(), 4+0+1+2+3)
			b.same(t, "rows", txns...)
		}
	}
}

func TestRowsAreNewMemory(t *testing.T) {
	b := full(t, 4)
	list, other := b.x.Rows(), b.x.Rows()
	keep := slices.Clone(list)
	spare := list[:cap(list)]
	for k := range spare {
		spare[k] = api.TxnRow{Txn: -7, First: -7, Last: -7}
	}
	wantRows(t, "another answer", other, keep...)
	b.same(t, "behind a change of what Rows answered", fours()...)
	b.log(t, 1, 1<<30)
	b.end(t, 2)
	b.begin(t, 5)
	b.log(t, 5, 1<<29)
	wantRows(t, "an answer stays", other, keep...)
	b.alike(t, "behind it", append(fours(), 5)...)
}

func TestNeedOfSeveralTogether(t *testing.T) {
	b := born()
	wantNeed(t, "none", b.x.Need(), 0)
	n := 0
	for k, txn := range fours() {
		b.begin(t, txn)
		n++
		wantNeed(t, fmt.Sprintf("%d are there", k+1), b.x.Need(), n)
		for _, d := range []int{0, 1, most - 1, -5, 5} {
			want(t, "Left", b.change(t, txn, d), api.OK)
			n += d
			wantNeed(t, fmt.Sprintf("%d are there", k+1), b.x.Need(), n)
		}
	}
	wantNeed(t, "four with all that may stand", b.x.Need(), 4+4*most)
	for k, txn := range fours() {
		b.end(t, txn)
		wantNeed(t, fmt.Sprintf("%d are ended", k+1), b.x.Need(), (3-k)*(1+most))
	}
}

func TestAskingChangesNothing(t *testing.T) {
	b := full(t, 4)
	for range 3 {
		for _, txn := range append(fours(), wild()...) {
			b.same(t, "asked again and again", txn)
		}
	}
	b.alike(t, "asked again and again", fours()...)
}

// Each call with numbers of all sizes, on tables with none to four: what is refused changes nothing.
func TestRefusedCallsChangeNothing(t *testing.T) {
	refused := 0
	for n := range 5 {
		for _, name := range []string{"Begin", "Log", "Mark", "Back", "Left", "End"} {
			for _, txn := range append(fours(), 0, -1, 3, 1<<31, 1<<32+1) {
				for _, k := range append(wild(), 0, 6, 9, 12, 128, 176) {
					b := full(t, n)
					c := call{name, txn, k}
					if b.do(t, c) == api.OK {
						continue
					}
					refused++
					b.alike(t, fmt.Sprintf("behind the refused %v", c), append(fours(), 3)...)
				}
			}
		}
	}
	if refused < 1000 {
		t.Fatalf("only %d were refused", refused)
	}
}

func TestTablesGoTheirOwnWays(t *testing.T) {
	a, b := full(t, 4), full(t, 2)
	b.end(t, 2)
	b.begin(t, 9)
	b.log(t, 9, 7)
	a.back(t, last, 1)
	a.same(t, "the one", append(fours(), 9)...)
	b.same(t, "the other one", append(fours(), 9)...)
	a.end(t, last)
	b.alike(t, "the other one", append(fours(), 9)...)
	a.alike(t, "the one", append(fours(), 9)...)
}

func TestNilTable(t *testing.T) {
	var x *table.Table
	for _, txn := range append(wild(), fours()...) {
		want(t, "Begin", x.Begin(txn), api.ErrNil)
		absent(t, x, txn, api.ErrNil)
	}
	wantRows(t, "nil", x.Rows())
	wantNeed(t, "nil", x.Need(), 0)
}

func TestATableThatNewDidNotMakeIsEmpty(t *testing.T) {
	for _, txn := range append(wild(), fours()...) {
		b := &twins{x: &table.Table{}}
		for _, c := range []call{{"Log", txn, 1}, {"Left", txn, 0}, {"Mark", txn, 0}, {"Back", txn, 0}, {"End", txn, 0}} {
			b.do(t, c)
		}
		b.alike(t, "a table that New didn't make", txn, 1)
		for _, c := range []call{{"Begin", txn, 0}, {"Log", txn, 5}, {"Left", txn, 1}, {"Mark", txn, 1}, {"Log", txn, 6}, {"Back", txn, 0}} {
			b.do(t, c)
		}
		b.alike(t, "a table that New didn't make", txn, 1)
		b.end(t, txn)
		b.alike(t, "a table that New didn't make", txn, 1)
	}
}
