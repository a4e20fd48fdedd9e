package tape_test

import (
	"fmt"
	"math"
	"slices"
	"strings"
	"testing"

	"careen/api"
	"careen/disk"
	"careen/record"
	"careen/redo"
	"careen/tape"
	"careen/wal"
)

// A tape as the document tells it, beside a log of which each record and each step is written down.

// size is how many sectors the log's ring has.
const size = 8

// plainLog is what a log was told: all records that it ever took, but those that a crash lost.
type plainLog struct {
	low, first int
	list       []api.Entry
}

// between is the records in the sectors from one up to (not with) another one.
func (l plainLog) between(from, to int) (own []api.Entry) {
	for _, x := range l.list {
		if x.At >= 128*from && x.At < 128*to {
			own = append(own, x)
		}
	}
	return own
}

type plainTape struct {
	end  int
	list []api.Entry
}

func (x *plainTape) add(l plainLog) (int, api.Errno) {
	if l.low > x.end {
		return 0, api.ErrState
	}
	more := l.between(x.end, l.first)
	x.list = slices.Concat(x.list, more)
	x.end = max(x.end, l.first)
	return len(more), api.OK
}

func (x plainTape) whole(l plainLog) ([]api.Entry, api.Errno) {
	if l.low > x.end {
		return nil, api.ErrState
	}
	return slices.Concat(x.list, l.between(x.end, 1<<30)), api.OK
}

// both is a log and a tape, and what they should be.
type both struct {
	d *disk.Disk
	l *wal.Log
	p plainLog
	x *tape.Tape
	q plainTape
}

func newBoth(t *testing.T) *both {
	t.Helper()
	d, e := disk.New(size)
	if e != api.OK {
		t.Fatalf("disk.New: %d", e)
	}
	l, e := wal.New(d, 0, size)
	if e != api.OK {
		t.Fatalf("wal.New: %d", e)
	}
	return &both{d: d, l: l, p: plainLog{low: 1, first: 1}, x: tape.New(), q: plainTape{end: 1}}
}

// append puts records into the log, as far as it has room, and tells how many it took.
func (b *both) append(t *testing.T, list ...api.Rec) (n int) {
	t.Helper()
	for _, r := range list {
		at, e := b.l.Append(r)
		switch {
		case e == api.OK:
			b.p.list = append(b.p.list, api.Entry{At: at, R: r})
			n++
		case e != api.ErrFull:
			t.Fatalf("Append(%#v): %d", r, e)
		}
	}
	return n
}

func (b *both) flush() api.Errno {
	e := b.l.Flush()
	if n := len(b.p.list); e == api.OK && n > 0 {
		b.p.first = max(b.p.first, b.p.list[n-1].At/128+1)
	}
	return e
}

func (b *both) cut(low int) {
	if b.l.Cut(low) == api.OK {
		b.p.low = low
	}
}

// crash loses what the picks say, and opens the log anew.
func (b *both) crash(t *testing.T, picks ...uint8) {
	t.Helper()
	b.d.Crash(picks)
	b.open(t, b.p.low)
}

// open opens the log anew, from a sector on; what the disk hasn't, it hasn't any more. Where no safe sector was kept, it isn't told what it has, but asked: an older sector that a crash left may be the first one then, as none ahead of it shows its age.
func (b *both) open(t *testing.T, low int) {
	t.Helper()
	l, e := wal.Open(b.d, 0, size, low)
	if e != api.OK {
		t.Fatalf("wal.Open: %d", e)
	}
	list := b.p.between(1, l.Next())
	if low == b.p.first {
		list = slices.Concat(b.p.between(1, low), l.Scan(0))
	}
	b.l, b.p = l, plainLog{low: low, first: l.Next(), list: list}
}

// add does Add, and holds its answer against the plain one.
func (b *both) add(t *testing.T, what string) int {
	t.Helper()
	want, f := b.q.add(b.p)
	n, e := b.x.Add(b.l)
	if n != want || e != f {
		t.Fatalf("%s: Add: %d, %d, not %d, %d", what, n, e, want, f)
	}
	return n
}

// alike holds all that a tape tells, of itself and beside the log, against the plain one.
func (b *both) alike(t *testing.T, what string) {
	t.Helper()
	wantTape(t, what, b.x, b.q.end, b.q.list)
	want, f := b.q.whole(b.p)
	wantWhole(t, what, b.x, b.l, want, f)
	for n := -1; n < 9; n++ {
		b.alikePage(t, what, n)
	}
	b.alikeLog(t, what)
}

// alikeLog holds what the log tells of itself against what it was told.
func (b *both) alikeLog(t *testing.T, what string) {
	t.Helper()
	first, open := b.l.Low(), b.p.first
	for b.l.Safe(128 * first) {
		first++
	}
	if n := len(b.p.list); n > 0 {
		open = max(open, b.p.list[n-1].At/128)
	}
	if b.l.Low() != b.p.low || first != b.p.first || b.l.Next() != open {
		t.Fatalf("%s: the log has low %d, first %d, Next %d, not %d, %d, %d", what, b.l.Low(), first, b.l.Next(), b.p.low, b.p.first, open)
	}
	if list, want := b.l.Scan(0), b.p.between(b.p.low, 1<<30); !sameEntries(list, want) {
		t.Fatalf("%s: the log: %s", what, differ(list, want))
	}
}

func (b *both) alikePage(t *testing.T, what string, n int) api.Page {
	t.Helper()
	list, f := b.q.whole(b.p)
	want := api.Page{}
	if f == api.OK {
		want = redo.One(list, n)
	}
	p, e := b.x.Page(b.l, n)
	if p != want || e != f {
		t.Fatalf("%s: Page of %d: %s, %d, not %s, %d", what, n, told(p), e, told(want), f)
	}
	return p
}

func wantTape(t *testing.T, what string, x *tape.Tape, end int, list []api.Entry) {
	t.Helper()
	if got := x.Upto(); got != end {
		t.Fatalf("%s: Upto: %d, not %d", what, got, end)
	}
	if got := x.List(); !sameEntries(got, list) {
		t.Fatalf("%s: List: %s", what, differ(got, list))
	}
}

func wantAdd(t *testing.T, what string, x *tape.Tape, l *wal.Log, want int, f api.Errno) {
	t.Helper()
	if n, e := x.Add(l); n != want || e != f {
		t.Fatalf("%s: Add: %d, %d, not %d, %d", what, n, e, want, f)
	}
}

func wantWhole(t *testing.T, what string, x *tape.Tape, l *wal.Log, want []api.Entry, f api.Errno) {
	t.Helper()
	if list, e := x.Whole(l); e != f || !sameEntries(list, want) {
		t.Fatalf("%s: Whole: %d, not %d; %s", what, e, f, differ(list, want))
	}
}

func wantPage(t *testing.T, what string, x *tape.Tape, l *wal.Log, n int, want api.Page, f api.Errno) {
	t.Helper()
	if p, e := x.Page(l, n); p != want || e != f {
		t.Fatalf("%s: Page of %d: %s, %d, not %s, %d", what, n, told(p), e, told(want), f)
	}
}

func sameEntries(a, b []api.Entry) bool {
	return slices.EqualFunc(a, b, func(x, y api.Entry) bool { return x.At == y.At && record.Same(x.R, y.R) })
}

// Records in short: the tape asks none of them what it says.

func up(page, off int, after string) api.Rec {
	return api.Rec{Kind: api.RUpdate, Txn: 1, Page: page, Off: off, Before: strings.Repeat("?", len(after)), After: after}
}

func un(page, off int, after string) api.Rec {
	return api.Rec{Kind: api.RUndo, Txn: 1, Page: page, Off: off, After: after, Prev: 3, Next: 2}
}

func commit(txn int) api.Rec {
	return api.Rec{Kind: api.RCommit, Txn: txn}
}

// long is the longest record, of 95 bytes: beside it only one of up to 17 has room in its sector.
func long(k int) api.Rec {
	r := api.Rec{Kind: api.RTables, Begin: k}
	for i := range 4 {
		r.Txns = append(r.Txns, api.TxnRow{Txn: i + 1, First: k + i, Last: k + 2*i})
	}
	for i := range 8 {
		r.Pages = append(r.Pages, api.PageRow{Page: i, Rec: k + 3*i})
	}
	return r
}

// with is a page of noughts with a place, and with some bytes in front.
func with(at int, front string) api.Page {
	return api.Page{At: at, Data: front + strings.Repeat("\x00", 220-len(front))}
}

// told is a page as one reads it where a test fails: without the noughts at the end.
func told(p api.Page) string {
	return fmt.Sprintf("{%d %d %q}", p.At, len(p.Data), strings.TrimRight(p.Data, "\x00"))
}

// differ tells where two lists part.
func differ(got, want []api.Entry) string {
	i := 0
	for i < len(got) && i < len(want) && sameEntries(got[i:i+1], want[i:i+1]) {
		i++
	}
	return fmt.Sprintf("%d records, not %d; from the record %d on\n %#v\nnot\n %#v", len(got), len(want), i, got[i:min(i+1, len(got))], want[i:min(i+1, len(want))])
}

// wild is numbers of all sizes, the least and the greatest ones too, rising.
func wild() []int {
	return []int{math.MinInt, math.MinInt + 1, -1 << 40, -1 << 32, -1 << 31, -257, -2, -1, 0, 1, 2, 5, 7, 8, 255, 256, 257, 1<<31 - 1, 1 << 31, 1 << 32, 1<<32 + 1, 1 << 40, math.MaxInt - 1, math.MaxInt}
}

// dice is numbers that look thrown, the same ones each time.
type dice uint64

func (d *dice) below(n int) int {
	*d = *d*6364136223846793005 + 1442695040888963407
	return int(uint64(*d) >> 33 % uint64(n))
}

// one is one of some numbers.
func (d *dice) one(n ...int) int {
	return n[d.below(len(n))]
}

// text is some bytes, none of them 0.
func (d *dice) text(n int) string {
	b := make([]byte, n)
	for i := range b {
		b[i] = byte(1 + d.below(255))
	}
	return string(b)
}

// record is one that may be, of any kind; most are changes.
func (d *dice) record() api.Rec {
	switch d.below(9) {
	case 0:
		return api.Rec{Kind: d.one(api.RCommit, api.REnd), Txn: 1 + d.below(3), Prev: d.below(999)}
	case 1:
		return api.Rec{Kind: api.RBegin}
	case 2:
		r := long(d.below(999))
		r.Txns, r.Pages = r.Txns[:d.below(5)], r.Pages[:d.below(9)]
		return r
	case 3, 4:
		return un(d.below(8), d.below(200), d.text(1+d.below(16)))
	}
	n := 1 + d.below(16)
	return up(d.below(8), d.one(0, d.below(200), 220-n), d.text(n))
}
