package table_test

import (
	"fmt"
	"math"
	"math/big"
	"slices"
	"testing"

	"careen/api"
	"careen/table"
)

// Transactions as the document tells them, without a map, and what holds the package's table against them.

// last is the greatest transaction that may be, most the greatest number of changes that stand.
const (
	last = 1<<31 - 1
	most = 1 << 20
)

// save is a savepoint.
type save struct{ at, left int }

// life is a transaction with all that it was told: the places of its records and the changes that came and went, each one.
type life struct {
	txn    int
	places []int
	ds     []int
	marks  []save
}

func (x life) first() int {
	if len(x.places) == 0 {
		return 0
	}
	return x.places[0]
}

func (x life) last() int {
	if len(x.places) == 0 {
		return 0
	}
	return x.places[len(x.places)-1]
}

func (x life) left() int {
	n := 0
	for _, d := range x.ds {
		n += d
	}
	return n
}

func (x life) row() api.TxnRow {
	return api.TxnRow{Txn: x.txn, First: x.first(), Last: x.last()}
}

// plain is the transactions that are there, as they began.
type plain []life

// at is where a transaction stands in the row; -1, if it isn't there.
func (p plain) at(txn int) int {
	return slices.IndexFunc(p, func(x life) bool { return x.txn == txn })
}

// with is the transactions behind a change of one, which are new ones.
func (p plain) with(i int, x life) plain {
	q := slices.Clone(p)
	q[i] = x
	return q
}

func (p plain) begin(txn int) (plain, api.Errno) {
	if txn < 1 || txn > 2147483647 {
		return p, api.ErrArg
	}
	if p.at(txn) >= 0 {
		return p, api.ErrOnce
	}
	if len(p) == 4 {
		return p, api.ErrFull
	}
	return append(slices.Clone(p), life{txn: txn}), api.OK
}

func (p plain) log(txn, at int) (plain, api.Errno) {
	i := p.at(txn)
	if i < 0 {
		return p, api.ErrNone
	}
	x := p[i]
	if at <= x.last() {
		return p, api.ErrArg
	}
	x.places = append(slices.Clone(x.places), at)
	return p.with(i, x), api.OK
}

func (p plain) mark(txn, left int) (plain, int, api.Errno) {
	i := p.at(txn)
	if i < 0 {
		return p, 0, api.ErrNone
	}
	x := p[i]
	if left != x.left() {
		return p, 0, api.ErrArg
	}
	if len(x.marks) == 4 {
		return p, 0, api.ErrFull
	}
	x.marks = append(slices.Clone(x.marks), save{x.last(), x.left()})
	return p.with(i, x), len(x.marks) - 1, api.OK
}

func (p plain) back(txn, n int) (plain, save, api.Errno) {
	i := p.at(txn)
	if i < 0 {
		return p, save{}, api.ErrNone
	}
	x := p[i]
	for k, m := range x.marks {
		if k == n {
			x.marks = slices.Clone(x.marks[:k+1])
			return p.with(i, x), m, api.OK
		}
	}
	return p, save{}, api.ErrNone
}

func (p plain) change(txn, d int) (plain, api.Errno) {
	i := p.at(txn)
	if i < 0 {
		return p, api.ErrNone
	}
	x := p[i]
	// The sum is a great one's, so that each d is told as it is.
	sum := new(big.Int).Add(big.NewInt(int64(x.left())), big.NewInt(int64(d)))
	if sum.Sign() < 0 || sum.Cmp(big.NewInt(1048576)) > 0 {
		return p, api.ErrArg
	}
	x.ds = append(slices.Clone(x.ds), d)
	return p.with(i, x), api.OK
}

func (p plain) end(txn int) (plain, api.Errno) {
	i := p.at(txn)
	if i < 0 {
		return p, api.ErrNone
	}
	return slices.Delete(slices.Clone(p), i, i+1), api.OK
}

func (p plain) row(txn int) (api.TxnRow, int, api.Errno) {
	i := p.at(txn)
	if i < 0 {
		return api.TxnRow{}, 0, api.ErrNone
	}
	return p[i].row(), p[i].left(), api.OK
}

// rows goes through the numbers in their order, each time for the least one that is above the one before.
func (p plain) rows() []api.TxnRow {
	var list []api.TxnRow
	for below := 0; ; {
		least := -1
		for i, x := range p {
			if x.txn > below && (least < 0 || x.txn < p[least].txn) {
				least = i
			}
		}
		if least < 0 {
			return list
		}
		below = p[least].txn
		if len(p[least].places) > 0 {
			list = append(list, p[least].row())
		}
	}
}

func (p plain) need() int {
	n := 0
	for _, x := range p {
		n += 1 + x.left()
	}
	return n
}

// twins are a table and the plain transactions to which the same is done.
type twins struct {
	x *table.Table
	p plain
}

func born() *twins {
	return &twins{x: table.New()}
}

func (b *twins) begin(t *testing.T, txn int) api.Errno {
	t.Helper()
	p, e := b.p.begin(txn)
	got := b.x.Begin(txn)
	if got != e {
		t.Fatalf("Begin(%d) of %v: %d, not %d", txn, b.p, got, e)
	}
	b.p = p
	return e
}

func (b *twins) log(t *testing.T, txn, at int) api.Errno {
	t.Helper()
	p, e := b.p.log(txn, at)
	got := b.x.Log(txn, at)
	if got != e {
		t.Fatalf("Log(%d, %d) of %v: %d, not %d", txn, at, b.p, got, e)
	}
	b.p = p
	return e
}

func (b *twins) mark(t *testing.T, txn, left int) (int, api.Errno) {
	t.Helper()
	p, n, e := b.p.mark(txn, left)
	gotN, got := b.x.Mark(txn, left)
	if gotN != n || got != e {
		t.Fatalf("Mark(%d, %d) of %v: %d, %d, not %d, %d", txn, left, b.p, gotN, got, n, e)
	}
	b.p = p
	return n, e
}

func (b *twins) back(t *testing.T, txn, n int) (save, api.Errno) {
	t.Helper()
	p, m, e := b.p.back(txn, n)
	at, left, got := b.x.Back(txn, n)
	if at != m.at || left != m.left || got != e {
		t.Fatalf("Back(%d, %d) of %v: %d, %d, %d, not %d, %d, %d", txn, n, b.p, at, left, got, m.at, m.left, e)
	}
	b.p = p
	return m, e
}

func (b *twins) change(t *testing.T, txn, d int) api.Errno {
	t.Helper()
	p, e := b.p.change(txn, d)
	got := b.x.Left(txn, d)
	if got != e {
		t.Fatalf("Left(%d, %d) of %v: %d, not %d", txn, d, b.p, got, e)
	}
	b.p = p
	return e
}

func (b *twins) end(t *testing.T, txn int) api.Errno {
	t.Helper()
	p, e := b.p.end(txn)
	got := b.x.End(txn)
	if got != e {
		t.Fatalf("End(%d) of %v: %d, not %d", txn, b.p, got, e)
	}
	b.p = p
	return e
}

// same holds the twins against each other, by all that can be asked of them without a change.
func (b *twins) same(t *testing.T, what string, txns ...int) {
	t.Helper()
	for _, txn := range txns {
		row, left, e := b.p.row(txn)
		gotRow, gotLeft, got := b.x.Row(txn)
		if gotRow != row || gotLeft != left || got != e {
			t.Fatalf("%s: Row(%d) of %v: %v, %d, %d, not %v, %d, %d", what, txn, b.p, gotRow, gotLeft, got, row, left, e)
		}
	}
	if got, list := b.x.Rows(), b.p.rows(); !slices.Equal(got, list) {
		t.Fatalf("%s: Rows of %v: %v, not %v", what, b.p, got, list)
	}
	if got, n := b.x.Need(), b.p.need(); got != n {
		t.Fatalf("%s: Need of %v: %d, not %d", what, b.p, got, n)
	}
}

// drain asks for each mark of some transactions, from the highest number down, so that none takes another one away unasked; then the twins have no marks but 0.
func (b *twins) drain(t *testing.T, txns ...int) {
	t.Helper()
	for _, txn := range txns {
		for n := 5; n >= -1; n-- {
			b.back(t, txn, n)
		}
	}
}

// alike holds the twins against each other by all that can be asked, their marks too.
func (b *twins) alike(t *testing.T, what string, txns ...int) {
	t.Helper()
	b.same(t, what, txns...)
	b.drain(t, txns...)
	b.same(t, what+", and Back at each mark", txns...)
}

func want(t *testing.T, what string, got, e api.Errno) {
	t.Helper()
	if got != e {
		t.Fatalf("%s: %d, not %d", what, got, e)
	}
}

func wantRow(t *testing.T, what string, x *table.Table, row api.TxnRow, left int) {
	t.Helper()
	got, n, e := x.Row(row.Txn)
	if got != row || n != left || e != api.OK {
		t.Fatalf("%s: Row(%d): %v, %d, %d, not %v, %d", what, row.Txn, got, n, e, row, left)
	}
}

func wantRows(t *testing.T, what string, got []api.TxnRow, list ...api.TxnRow) {
	t.Helper()
	if !slices.Equal(got, list) {
		t.Fatalf("%s: the rows %v, not %v", what, got, list)
	}
}

func wantNeed(t *testing.T, what string, got, n int) {
	t.Helper()
	if got != n {
		t.Fatalf("%s: Need is %d, not %d", what, got, n)
	}
}

func wantMark(t *testing.T, what string, x *table.Table, txn, left, n int) {
	t.Helper()
	if got, e := x.Mark(txn, left); got != n || e != api.OK {
		t.Fatalf("%s: Mark(%d, %d): %d, %d, not %d", what, txn, left, got, e, n)
	}
}

func wantBack(t *testing.T, what string, x *table.Table, txn, n, at, left int) {
	t.Helper()
	gotAt, gotLeft, e := x.Back(txn, n)
	if gotAt != at || gotLeft != left || e != api.OK {
		t.Fatalf("%s: Back(%d, %d): %d, %d, %d, not %d, %d", what, txn, n, gotAt, gotLeft, e, at, left)
	}
}

// noTxns is numbers that no transaction has: beside those next to the bounds, those that are like 1 or 2 in their low bits.
func noTxns() []int {
	return []int{0, -1, -2, -last, -1 << 31, 1 << 31, 1<<31 + 1, 1<<32 - 1, 1 << 32, 1<<32 + 1, 1<<33 + 2, math.MinInt, math.MinInt + 1, math.MaxInt}
}

// wild is numbers of all sizes.
func wild() []int {
	return append(noTxns(), 1, 2, 3, 4, 5, 127, 128, most-1, most, most+1, -most, -most-1, last-1, last, math.MaxInt-most, math.MinInt+most, math.MaxInt-1)
}

// call is a call that may change something.
type call struct {
	name   string
	txn, n int
}

func (c call) String() string {
	return fmt.Sprintf("%s(%d, %d)", c.name, c.txn, c.n)
}

func (b *twins) do(t *testing.T, c call) api.Errno {
	t.Helper()
	switch c.name {
	case "Begin":
		return b.begin(t, c.txn)
	case "Log":
		return b.log(t, c.txn, c.n)
	case "Mark":
		_, e := b.mark(t, c.txn, c.n)
		return e
	case "Back":
		_, e := b.back(t, c.txn, c.n)
		return e
	case "Left":
		return b.change(t, c.txn, c.n)
	case "End":
		return b.end(t, c.txn)
	}
	t.Fatalf("no call: %v", c)
	return 0
}
