package lock_test

import (
	"fmt"
	"math"
	"slices"
	"testing"

	"careen/api"
	"careen/lock"
)

// Locks as the document tells them, without a map, and what holds the package's table against them.

// last is the greatest transaction that may be.
const last = 1<<31 - 1

// hold is a page that a transaction has.
type hold struct{ txn, page, mode int }

// plain is locks as the document tells them: a row of what anybody has.
type plain []hold

func (p plain) mode(txn, page int) int {
	for _, h := range p {
		if h.txn == txn && h.page == page {
			return h.mode
		}
	}
	return 0
}

func (p plain) may(txn, page, mode int) api.Errno {
	if txn < 1 || txn > 2147483647 || page < 0 || page > 7 || mode != 1 && mode != 2 {
		return api.ErrArg
	}
	for _, h := range p {
		if h.page != page || h.txn == txn {
			continue
		}
		if h.mode == 2 || mode == 2 {
			return api.ErrLock
		}
	}
	return api.OK
}

func (p plain) pages(txn int) []int {
	var list []int
	for i := range 8 {
		if p.mode(txn, i) != 0 {
			list = append(list, i)
		}
	}
	return list
}

// take answers the locks behind a Take, which are new ones.
func (p plain) take(txn, page, mode int) (plain, api.Errno) {
	if e := p.may(txn, page, mode); e != api.OK {
		return p, e
	}
	mode = max(mode, p.mode(txn, page))
	q := slices.DeleteFunc(slices.Clone(p), func(h hold) bool { return h.txn == txn && h.page == page })
	return append(q, hold{txn, page, mode}), api.OK
}

// free answers the locks behind a Free, which are new ones, and how many are no more.
func (p plain) free(txn int) (plain, int) {
	q := slices.DeleteFunc(slices.Clone(p), func(h hold) bool { return h.txn == txn })
	return q, len(p) - len(q)
}

// twins are a table and the plain locks to which the same is done.
type twins struct {
	l *lock.Table
	p plain
}

func born() *twins {
	return &twins{l: lock.New()}
}

// with is twins in which just that is held.
func with(t *testing.T, list ...hold) *twins {
	t.Helper()
	b := born()
	for _, h := range list {
		want(t, fmt.Sprintf("Take(%d, %d, %d)", h.txn, h.page, h.mode), b.take(t, h.txn, h.page, h.mode), api.OK)
	}
	return b
}

func (b *twins) take(t *testing.T, txn, page, mode int) api.Errno {
	t.Helper()
	what := fmt.Sprintf("Take(%d, %d, %d) of %v", txn, page, mode, b.p)
	p, e := b.p.take(txn, page, mode)
	want(t, what, b.l.Take(txn, page, mode), e)
	b.p = p
	return e
}

func (b *twins) free(t *testing.T, txn int) int {
	t.Helper()
	p, n := b.p.free(txn)
	if got := b.l.Free(txn); got != n {
		t.Fatalf("Free(%d) of %v: %d, not %d", txn, b.p, got, n)
	}
	b.p = p
	return n
}

// copied is twins of their own with the same.
func (b *twins) copied() *twins {
	return &twins{b.l.Copy(), b.p}
}

// same holds the twins against each other, by all that can be asked of them without a change.
func (b *twins) same(t *testing.T, what string, txns ...int) {
	t.Helper()
	for _, txn := range txns {
		b.sameOf(t, what, txn)
	}
}

func (b *twins) sameOf(t *testing.T, what string, txn int) {
	t.Helper()
	if got, list := b.l.Pages(txn), b.p.pages(txn); !slices.Equal(got, list) {
		t.Fatalf("%s: Pages(%d) of %v: %v, not %v", what, txn, b.p, got, list)
	}
	for page := -1; page <= 8; page++ {
		if got, mode := b.l.Mode(txn, page), b.p.mode(txn, page); got != mode {
			t.Fatalf("%s: Mode(%d, %d) of %v: %d, not %d", what, txn, page, b.p, got, mode)
		}
		for mode := 0; mode <= 3; mode++ {
			if got, e := b.l.May(txn, page, mode), b.p.may(txn, page, mode); got != e {
				t.Fatalf("%s: May(%d, %d, %d) of %v: %d, not %d", what, txn, page, mode, b.p, got, e)
			}
		}
	}
}

func want(t *testing.T, what string, got, e api.Errno) {
	t.Helper()
	if got != e {
		t.Fatalf("%s: %d, not %d", what, got, e)
	}
}

func wantPages(t *testing.T, what string, got []int, list ...int) {
	t.Helper()
	if !slices.Equal(got, list) {
		t.Fatalf("%s: the pages %v, not %v", what, got, list)
	}
}

func wantMode(t *testing.T, what string, got, mode int) {
	t.Helper()
	if got != mode {
		t.Fatalf("%s: the mode %d, not %d", what, got, mode)
	}
}

// The numbers that may not be: beside those next to the bounds, those that are like 1, 0 or a mode in their low bits.

func noTxns() []int {
	return []int{0, -1, -2, -last, -1 << 31, 1 << 31, 1<<31 + 1, 1<<32 - 1, 1 << 32, 1<<32 + 1, 1<<33 + 2, math.MinInt, math.MinInt + 1, math.MaxInt}
}

func noPages() []int {
	return []int{-1, -2, -7, -8, 8, 9, 15, 16, 255, 256, 1 << 31, 1 << 32, 1<<32 + 7, math.MinInt, math.MinInt + 7, math.MaxInt}
}

func noModes() []int {
	return []int{0, -1, -2, 3, 4, 5, 255, 257, 258, 1 << 32, 1<<32 + 1, 1<<32 + 2, math.MinInt, math.MinInt + 1, math.MinInt + 2, math.MaxInt}
}
