package engine_test

import (
	"fmt"
	"math"
	"slices"
	"strings"
	"testing"
	"unsafe"

	"careen/api"
	"careen/cell"
	"careen/engine"
)

// middle is a config with room for all that isn't about room.
func middle() api.Config { return api.Config{Pages: 3, Frames: 2, Log: 40} }

// want is an operation, and what it brings without a crash.
type want struct {
	o     api.Op
	e     api.Errno
	data  string
	acked []int
}

// expect does operations, and holds each answer against what it should be, and all against the models.
func expect(t *testing.T, x *trio, list ...want) {
	t.Helper()
	for _, w := range list {
		if a := x.do(t, w.o); !sameAnswer(a, api.Answer{Err: w.e, Data: w.data, Acked: w.acked}) {
			t.Fatalf("%s: %s, not %d %q %v", x.last(), toldAnswer(a), w.e, w.data, w.acked)
		}
	}
}

// refused does an operation that is to answer an error, and holds what the engine tells against what it told ahead.
func refused(t *testing.T, x *trio, o api.Op, e api.Errno) {
	t.Helper()
	ahead := state(x.g)
	if a := x.do(t, o); !sameAnswer(a, api.Answer{Err: e}) {
		t.Fatalf("%s: %s, not %d", x.last(), toldAnswer(a), e)
	}
	if behind := state(x.g); behind != ahead {
		t.Fatalf("%s: it was refused, but %s became %s", x.last(), ahead, behind)
	}
}

// state is all that an engine tells, in short.
func state(g *engine.Engine) string {
	return fmt.Sprint(g.Live(), g.Pending(), g.Low(), g.Room(), g.Need(), g.Upto(), g.Log(), g.Pages())
}

// start is a trio that did some operations, of which none may be refused.
func start(t *testing.T, c api.Config, list ...api.Op) *trio {
	t.Helper()
	x := newTrio(t, c)
	for _, o := range list {
		if a := x.do(t, o); a.Err != api.OK {
			t.Fatalf("%s: %s", x.last(), toldAnswer(a))
		}
	}
	return x
}

// The chapter's examples.

func TestExamples(t *testing.T) {
	list := []api.Op{begin(1), write(1, 0, 0, "a"), commit(1)}
	x := start(t, middle(), list...)
	expect(t, x, want{flush(), api.OK, "", []int{1}})
	x.do(t, crash(0))
	if a := x.do(t, begin(1)); !a.Down || short(x.g.Pages()[0]) != "a" {
		t.Errorf("behind a flush: %s, %q", toldAnswer(a), short(x.g.Pages()[0]))
	}
	for fuse := range 2 {
		x = start(t, middle(), append(list, crash(fuse, 0))...)
		if a := x.do(t, flush()); !a.Down || short(x.g.Pages()[0]) != "" {
			t.Errorf("without a flush: %s, %q", toldAnswer(a), short(x.g.Pages()[0]))
		}
	}
}

// Those of the whole that an engine shows.

func TestAPageThatIsEvictedAheadOfACommit(t *testing.T) {
	x := start(t, middle(), begin(1), write(1, 0, 5, "abc"), evict(0), crash(0))
	x.do(t, begin(2))
	log := x.g.Log()
	if short(x.g.Pages()[0]) != "" || len(log) != 3 || log[1].R.Kind != api.RUndo || log[1].R.After != "\x00\x00\x00" || log[1].R.Off != 5 || log[2].R.Kind != api.REnd {
		t.Errorf("%q, %+v", short(x.g.Pages()[0]), log)
	}
}

func TestFloatsWithTheirEdges(t *testing.T) {
	for _, f := range []float64{0, math.Copysign(0, -1), 1.5, math.Inf(1), math.Inf(-1), math.NaN(), math.MaxFloat64, math.SmallestNonzeroFloat64} {
		for _, k := range []float64{0, math.Copysign(0, -1), 2, math.Inf(1), math.Inf(-1), math.NaN(), math.MaxFloat64} {
			x := start(t, middle(), begin(1), write(1, 2, 212, cell.Bytes(f)))
			sum := cell.Bytes(f + k)
			o := add(1, 2, 212, k)
			o.Data, o.N = "not asked", 3
			expect(t, x, want{o, api.OK, sum, nil}, want{read(1, 2, 212, 8), api.OK, sum, nil})
			if log := x.g.Log(); len(log) != 2 || log[1].R.Kind != api.RUpdate || log[1].R.Before != cell.Bytes(f) || log[1].R.After != sum {
				t.Fatalf("%v and %v: %+v", f, k, log)
			}
			expect(t, x, want{abort(1), api.OK, "", nil})
		}
	}
	x := start(t, middle(), begin(1), write(1, 0, 8, "\x7f\xf8\x00\x00\x00\x00\x00\x09"))
	expect(t, x, want{add(1, 0, 8, 1), api.OK, "\x7f\xf8\x00\x00\x00\x00\x00\x00", nil})
}

// P16.1: New.

func TestNewTakesSizes(t *testing.T) {
	n := 0
	for pages := -1; pages < 11; pages++ {
		for frames := -1; frames < 11; frames++ {
			for log := -1; log < 80; log++ {
				wantNew(t, api.Config{Pages: pages, Frames: frames, Log: log}, &n)
			}
		}
	}
	for _, k := range wild() {
		wantNew(t, api.Config{Pages: k, Frames: 1, Log: 8}, &n)
		wantNew(t, api.Config{Pages: 8, Frames: k, Log: 64}, &n)
		wantNew(t, api.Config{Pages: 1, Frames: 8, Log: k}, &n)
		wantNew(t, api.Config{Pages: k, Frames: k, Log: k}, &n)
	}
	if n < 8*8*57 {
		t.Errorf("%d engines", n)
	}
}

// wantNew counts the engines.
func wantNew(t *testing.T, c api.Config, n *int) {
	t.Helper()
	g, e := engine.New(c)
	if c.Pages < 1 || c.Pages > 8 || c.Frames < 1 || c.Frames > 8 || c.Log < 8 || c.Log > 64 {
		if g != nil || e != api.ErrArg {
			t.Fatalf("New(%v): %v, %d", c, g, e)
		}
		return
	}
	*n++
	if e != api.OK || g == nil {
		t.Fatalf("New(%v): %v, %d", c, g, e)
	}
	if d := differ(g, newPlain(c)); d != "" {
		t.Fatalf("New(%v): %s", c, d)
	}
	pages := g.Pages()
	if len(g.Live())+len(g.Pending())+len(g.Log())+g.Need() != 0 || g.Low() != 1 || g.Upto() != 1 || g.Room() != c.Log || len(pages) != c.Pages || strings.Join(pages, "") != strings.Repeat("\x00", 220*c.Pages) {
		t.Fatalf("New(%v): %s", c, state(g))
	}
}

func TestEnginesKnowNothingOfEachOther(t *testing.T) {
	a, b := start(t, middle(), begin(1), write(1, 0, 0, "a"), crash(0)), newTrio(t, middle())
	a.do(t, begin(2))
	if d := differ(b.g, newPlain(middle())); d != "" {
		t.Errorf("another one: %s", d)
	}
	b.do(t, begin(1), write(1, 0, 0, "b"), commit(1), flush(), crash(0))
	a.do(t, begin(1), write(1, 1, 0, "a"), commit(1), flush(), evict(0))
	b.do(t, begin(1))
}

// P16.2: what each kind of operation does, and the first error that applies.

func TestBegin(t *testing.T) {
	x := newTrio(t, middle())
	for _, n := range wild() {
		if n < 1 || n > math.MaxInt32 {
			refused(t, x, begin(n), api.ErrArg)
		}
	}
	numbers := []int{math.MaxInt32, 7, 1, 65}
	for i, n := range numbers {
		o := begin(n)
		o.Page, o.Off, o.N, o.Data, o.F, o.Picks = -1, -1, -1, "not asked", math.NaN(), []uint8{1}
		expect(t, x, want{o, api.OK, "", nil})
		if x.g.Need() != i+1 {
			t.Fatalf("Need %d", x.g.Need())
		}
		refused(t, x, begin(n), api.ErrOnce)
	}
	if !slices.Equal(x.g.Live(), []int{1, 7, 65, math.MaxInt32}) {
		t.Fatalf("Live %v", x.g.Live())
	}
	for _, n := range wild() {
		switch {
		case n < 1 || n > math.MaxInt32:
			refused(t, x, begin(n), api.ErrArg)
		case slices.Contains(numbers, n):
			refused(t, x, begin(n), api.ErrOnce)
		default:
			refused(t, x, begin(n), api.ErrFull)
		}
	}
	expect(t, x, want{commit(7), api.OK, "", nil}, want{begin(8), api.OK, "", nil}, want{abort(1), api.OK, "", nil}, want{begin(1), api.OK, "", nil})
}

// of is an operation of n bytes of a page, of each kind that has them.
func of(kind, txn, page, off, n int) api.Op {
	switch kind {
	case api.ORead:
		return read(txn, page, off, n)
	case api.OWrite:
		return write(txn, page, off, strings.Repeat("w", max(n, 0)))
	}
	return add(txn, page, off, 1)
}

func TestPlacesInPages(t *testing.T) {
	for _, kind := range []int{api.ORead, api.OWrite, api.OAdd} {
		for _, n := range []int{math.MinInt, -1, 0, 1, 2, 7, 8, 9, 15, 16, 17, 18, 220, math.MaxInt} {
			if kind != api.ORead && (n < 0 || n > 220) || kind == api.OAdd && n != 8 {
				continue
			}
			for _, off := range append(wild(), 0, 1, 203, 204, 205, 211, 212, 213, 219, 220, 220-n, 221-n, 219-n) {
				x := start(t, middle(), begin(1))
				good := n >= 1 && n <= 16 && off >= 0 && off <= 220-n
				for page := range 3 {
					o := of(kind, 1, page, off, n)
					if !good {
						refused(t, x, o, api.ErrRange)
						continue
					}
					if a := x.do(t, o); a.Err != api.OK || kind == api.ORead && a.Data != strings.Repeat("\x00", n) {
						t.Fatalf("%s: %s", x.last(), toldAnswer(a))
					}
				}
			}
		}
	}
}

func TestWhichErrorIsFirst(t *testing.T) {
	for _, kind := range []int{api.ORead, api.OWrite, api.OAdd} {
		// 1 has page 0 alone, 2 and 3 share page 1, and nobody has page 2; there is room for no change.
		x := fill(t, api.Config{Pages: 3, Frames: 3, Log: 12}, begin(2), begin(3), begin(1), write(1, 0, 0, "a"), read(2, 1, 0, 1), read(3, 1, 0, 1))
		for _, txn := range wild() {
			if txn < 1 || txn > 3 {
				refused(t, x, of(kind, txn, -1, -1, 0), api.ErrNone)
				refused(t, x, of(kind, txn, 0, 0, 8), api.ErrNone)
			}
		}
		for _, page := range wild() {
			if page < 0 || page > 2 {
				refused(t, x, of(kind, 2, page, 0, 8), api.ErrRange)
			}
		}
		refused(t, x, of(kind, 2, 0, 213, 8), api.ErrRange)
		refused(t, x, of(kind, 2, 0, -1, 8), api.ErrRange)
		refused(t, x, of(kind, 2, 0, 0, 8), api.ErrLock)
		if kind == api.ORead {
			expect(t, x, want{of(kind, 1, 1, 0, 8), api.OK, strings.Repeat("\x00", 8), nil})
			continue
		}
		refused(t, x, of(kind, 2, 1, 0, 8), api.ErrLock)
		refused(t, x, of(kind, 1, 1, 0, 8), api.ErrLock)
		refused(t, x, of(kind, 2, 2, 0, 8), api.ErrFull)
		refused(t, x, of(kind, 1, 0, 0, 8), api.ErrFull)
		// What was refused for want of room has no page: another one can have it.
		expect(t, x, want{read(3, 2, 0, 1), api.OK, "\x00", nil})
	}
}

// fill does operations, and has the transaction 1 change its page 0 till there is room for no change more: flushed, so that each takes a sector.
func fill(t *testing.T, c api.Config, list ...api.Op) *trio {
	t.Helper()
	x := start(t, c, list...)
	for x.g.Room() >= x.g.Need()+2 {
		x.do(t, write(1, 0, 1, "fill"), flush())
	}
	return x
}

func TestLocks(t *testing.T) {
	x := start(t, api.Config{Pages: 3, Frames: 3, Log: 40}, begin(1), begin(2), begin(3))
	nought := "\x00"
	expect(t, x,
		want{read(1, 0, 0, 1), api.OK, nought, nil},
		want{read(2, 0, 0, 1), api.OK, nought, nil},
		want{write(1, 0, 0, "x"), api.ErrLock, "", nil},
		want{add(2, 0, 0, 1), api.ErrLock, "", nil},
		want{commit(2), api.OK, "", nil},
		want{write(1, 0, 0, "x"), api.OK, "", nil},
		want{read(3, 0, 0, 1), api.ErrLock, "", nil},
		want{read(1, 0, 0, 1), api.OK, "x", nil},
		want{read(3, 0, 0, 1), api.ErrLock, "", nil}, // alone it stays
		want{mark(1), api.OK, nought, nil},
		want{write(1, 1, 0, "y"), api.OK, "", nil},
		want{add(1, 2, 0, 1), api.OK, cell.Bytes(1), nil},
		want{back(1, 0), api.OK, "", nil},
		want{read(3, 1, 0, 1), api.ErrLock, "", nil}, // back at a mark it keeps them
		want{read(3, 2, 0, 1), api.ErrLock, "", nil},
		want{abort(1), api.OK, "", nil},
		want{write(3, 0, 0, "z"), api.OK, "", nil},
		want{write(3, 1, 0, "z"), api.OK, "", nil},
		want{write(3, 2, 0, "z"), api.OK, "", nil},
		want{begin(1), api.OK, "", nil},
		want{read(1, 0, 0, 1), api.ErrLock, "", nil},
		want{crash(0), api.OK, "", nil},
	)
	x.do(t, flush())
	expect(t, x, want{begin(1), api.OK, "", nil}, want{write(1, 0, 0, "1"), api.OK, "", nil}, want{write(1, 1, 0, "1"), api.OK, "", nil}, want{write(1, 2, 0, "1"), api.OK, "", nil})
}

// of each page of eight, the last ones too, somebody can have the one alone, and not the next one.
func TestLocksOfEachPage(t *testing.T) {
	x := start(t, api.Config{Pages: 8, Frames: 3, Log: 64}, begin(1), begin(2))
	for i := range 8 {
		expect(t, x, want{write(1+i%2, i, 0, fmt.Sprint(i)), api.OK, "", nil})
	}
	for i := range 8 {
		expect(t, x, want{read(2-i%2, i, 0, 1), api.ErrLock, "", nil}, want{read(1+i%2, i, 0, 1), api.OK, fmt.Sprint(i), nil})
	}
}

func TestTheRecordsOfATransaction(t *testing.T) {
	x := start(t, middle(), begin(5), write(5, 1, 10, "ab"), mark(5), write(5, 1, 11, "xyz"), add(5, 2, 0, 1.5), back(5, 0), back(5, 0), write(5, 1, 0, "c"), commit(5))
	one := cell.Bytes(1.5)
	at := []int{128, 144, 162, 190, 214, 256, 270}
	list := []api.Rec{
		{Kind: api.RUpdate, Page: 1, Off: 10, Before: "\x00\x00", After: "ab"},
		{Kind: api.RUpdate, Page: 1, Off: 11, Before: "b\x00\x00", After: "xyz"},
		{Kind: api.RUpdate, Page: 2, Before: strings.Repeat("\x00", 8), After: one},
		{Kind: api.RUndo, Page: 2, Next: 144, After: strings.Repeat("\x00", 8)},
		{Kind: api.RUndo, Page: 1, Off: 11, Next: 128, After: "b\x00\x00"},
		{Kind: api.RUpdate, Page: 1, Before: "\x00", After: "c"},
		{Kind: api.RCommit},
	}
	wantLog(t, x, 5, at, list)
	if a := x.do(t, flush()); !slices.Equal(a.Acked, []int{5}) {
		t.Errorf("Acked %v", a.Acked)
	}
}

// wantLog holds a log against records of one transaction, each with the one ahead as Prev.
func wantLog(t *testing.T, x *trio, txn int, at []int, list []api.Rec) {
	t.Helper()
	var entries []api.Entry
	prev := 0
	for i, r := range list {
		r.Txn, r.Prev = txn, prev
		prev = at[i]
		entries = append(entries, api.Entry{At: at[i], R: r})
	}
	if log := x.g.Log(); !sameEntries(log, entries) {
		t.Fatalf("Log: %s", differLogs(log, entries))
	}
}

func TestAbort(t *testing.T) {
	for _, txn := range wild() {
		refused(t, newTrio(t, middle()), abort(txn), api.ErrNone)
	}
	x := start(t, middle(), begin(2), write(2, 0, 0, "a"), write(2, 0, 0, "b"), abort(2))
	wantLog(t, x, 2, []int{128, 142, 156, 173, 190}, []api.Rec{
		{Kind: api.RUpdate, Before: "\x00", After: "a"},
		{Kind: api.RUpdate, Before: "a", After: "b"},
		{Kind: api.RUndo, Next: 128, After: "a"},
		{Kind: api.RUndo, After: "\x00"},
		{Kind: api.REnd},
	})
	refused(t, x, abort(2), api.ErrNone)
	if a := x.do(t, flush()); len(a.Acked) > 0 || short(x.g.Pages()[0]) != "" {
		t.Errorf("behind an abort: %s, %q", toldAnswer(a), short(x.g.Pages()[0]))
	}
	x = start(t, middle(), begin(2), abort(2))
	wantLog(t, x, 2, []int{128}, []api.Rec{{Kind: api.REnd}})
}

func TestMarks(t *testing.T) {
	for _, txn := range wild() {
		refused(t, newTrio(t, middle()), mark(txn), api.ErrNone)
		refused(t, newTrio(t, middle()), back(txn, 0), api.ErrNone)
	}
	x := start(t, middle(), begin(1), begin(2))
	for i := range 4 {
		expect(t, x, want{mark(1), api.OK, string([]byte{byte(i)}), nil}, want{write(1, 0, 0, fmt.Sprint("w", i)), api.OK, "", nil})
	}
	refused(t, x, mark(1), api.ErrFull)
	refused(t, x, back(2, 0), api.ErrNone)
	expect(t, x, want{mark(2), api.OK, "\x00", nil})
	for _, n := range wild() {
		if n < 0 || n > 3 {
			refused(t, x, back(1, n), api.ErrNone)
		}
	}
	for _, n := range []int{3, 3, 2, 0} {
		expect(t, x, want{back(1, n), api.OK, "", nil})
		s := fmt.Sprint("w", n-1)
		if n == 0 {
			s = ""
		}
		if got := short(x.g.Pages()[0]); got != s {
			t.Fatalf("back at the mark %d: %q", n, got)
		}
		if n < 3 {
			refused(t, x, back(1, n+1), api.ErrNone)
		}
	}
	for i := 1; i < 4; i++ {
		expect(t, x, want{mark(1), api.OK, string([]byte{byte(i)}), nil})
	}
	refused(t, x, mark(1), api.ErrFull)
	expect(t, x, want{back(1, 3), api.OK, "", nil}, want{commit(1), api.OK, "", nil})
	refused(t, x, back(1, 0), api.ErrNone)
	refused(t, x, mark(1), api.ErrNone)
	n := kinds(x.g.Log())
	if n[api.RUpdate] != 4 || n[api.RUndo] != 4 {
		t.Errorf("the kinds %v", n)
	}
	expect(t, x, want{begin(1), api.OK, "", nil})
	refused(t, x, back(1, 0), api.ErrNone) // another one of the same number has none of its marks
}

// Marks that stand where something was undone lead back to what stood then, and no further.
func TestMarksBehindAWayBack(t *testing.T) {
	x := start(t, middle(), begin(1), write(1, 0, 0, "a"), mark(1), write(1, 0, 1, "b"), back(1, 0), mark(1), write(1, 0, 2, "c"), mark(1), write(1, 0, 3, "d"))
	for _, c := range []struct {
		n int
		s string
	}{{2, "a\x00c"}, {1, "a"}, {1, "a"}, {0, "a"}, {0, "a"}} {
		expect(t, x, want{back(1, c.n), api.OK, "", nil})
		if got := short(x.g.Pages()[0]); got != c.s {
			t.Fatalf("back at the mark %d: %q", c.n, got)
		}
	}
	if n := kinds(x.g.Log())[api.RUndo]; n != 3 {
		t.Errorf("%d RUndos", n)
	}
	expect(t, x, want{abort(1), api.OK, "", nil})
	if got := short(x.g.Pages()[0]); got != "" {
		t.Errorf("given up: %q", got)
	}
}

func TestEvict(t *testing.T) {
	x := newTrio(t, api.Config{Pages: 3, Frames: 2, Log: 20})
	for _, n := range wild() {
		if n < 0 || n > 1 {
			refused(t, x, evict(n), api.ErrRange)
		}
	}
	refused(t, x, evict(0), api.ErrNone)
	refused(t, x, evict(1), api.ErrNone)
	x.do(t, begin(1), write(1, 2, 0, "a"), commit(1))
	refused(t, x, evict(1), api.ErrNone)
	expect(t, x, want{evict(0), api.OK, "", []int{1}})
	refused(t, x, evict(0), api.ErrNone)
	if short(x.g.Pages()[2]) != "a" {
		t.Errorf("evicted: %q", short(x.g.Pages()[2]))
	}
}

func TestOtherKinds(t *testing.T) {
	x := start(t, middle(), begin(1), write(1, 0, 0, "a"))
	for _, kind := range append(wild(), 0, 16, 17, -15, 1<<32+9) {
		if kind < 1 || kind > 15 {
			refused(t, x, api.Op{Kind: kind, Txn: 1, N: 1, Data: "x"}, api.ErrArg)
		}
	}
}

func TestTheStepsOfACheckpoint(t *testing.T) {
	x := start(t, middle(), begin(4), write(4, 2, 0, "a"), begin(2), write(2, 1, 0, "b"), write(4, 2, 2, "c"), begin(3))
	expect(t, x, want{check(), api.OK, "", nil})
	log := x.g.Log()
	if n := len(log); n != 4 || log[3].R.Kind != api.RBegin {
		t.Fatalf("step 1: %+v", log)
	}
	first := log[3].At
	x.do(t, write(2, 1, 1, "d"), begin(1), write(1, 0, 0, "e"), commit(1))
	expect(t, x, want{check(), api.OK, "", nil})
	log = x.g.Log()
	tables := api.Rec{
		Kind:  api.RTables,
		Begin: first,
		Txns:  []api.TxnRow{{Txn: 2, First: 142, Last: 171}, {Txn: 4, First: 128, Last: 156}},
		Pages: []api.PageRow{{Page: 0, Rec: 256}, {Page: 1, Rec: 142}}, // page 2 was in the frame that page 0 took, and the log was flushed for that
	}
	if len(log) != 8 || !sameEntries(log[7:], []api.Entry{{At: log[7].At, R: tables}}) {
		t.Fatalf("step 2: %+v", log)
	}
	x.do(t, begin(7), commit(7))
	expect(t, x, want{check(), api.OK, "", []int{1, 7}})
	refused(t, x, trim(), api.ErrState) // no master yet
	expect(t, x, want{check(), api.OK, "", nil})
	if n := len(x.g.Log()); n != 9 {
		t.Fatalf("steps 3 and 4: %d records", n)
	}
	expect(t, x, want{check(), api.OK, "", nil})
	if log = x.g.Log(); len(log) != 10 || log[9].R.Kind != api.RBegin {
		t.Fatalf("the next checkpoint: %+v", log)
	}
}

// A checkpoint that a crash ends isn't gone on with, and counts only from its last step on.
func TestACheckpointThatACrashEnds(t *testing.T) {
	for steps := range 5 {
		x := newTrio(t, api.Config{Pages: 2, Frames: 2, Log: 30})
		for i := range 5 {
			x.do(t, begin(1), write(1, i%2, 0, "a"), commit(1), flush())
		}
		x.do(t, evict(0), evict(1), archive())
		for range steps {
			expect(t, x, want{check(), api.OK, "", nil})
		}
		x.do(t, crash(0), flush())
		e := api.ErrState
		if steps == 4 {
			e = api.OK
		}
		if a := x.do(t, trim()); a.Err != e {
			t.Fatalf("behind %d steps: %s", steps, toldAnswer(a))
		}
		n := kinds(x.g.Log())[api.RBegin]
		expect(t, x, want{check(), api.OK, "", nil})
		if kinds(x.g.Log())[api.RBegin] != n+1 {
			t.Fatalf("behind %d steps the next one isn't the first", steps)
		}
	}
}

func TestACheckpointWithoutRoom(t *testing.T) {
	for steps := range 4 {
		c := api.Config{Pages: 2, Frames: 1, Log: 10}
		x := start(t, c, begin(1), begin(2))
		for range steps {
			expect(t, x, want{check(), api.OK, "", nil})
		}
		for x.g.Room() > x.g.Need() { // a change takes two, a way back none
			if a := x.do(t, write(1, 0, 0, "x"), flush()); a.Err != api.OK {
				t.Fatalf("flush: %s", toldAnswer(a))
			}
			if x.g.Room() == x.g.Need()+1 {
				x.do(t, begin(3))
			}
		}
		if steps < 2 {
			refused(t, x, check(), api.ErrFull)
			refused(t, x, check(), api.ErrFull)
			expect(t, x, want{abort(1), api.OK, "", nil}, want{abort(2), api.OK, "", nil})
			n := len(x.g.Log())
			expect(t, x, want{check(), api.OK, "", nil})
			if k := x.g.Log()[n].R.Kind; k != api.RBegin+steps {
				t.Fatalf("behind %d steps: the kind %d", steps, k)
			}
			continue
		}
		expect(t, x, want{check(), api.OK, "", nil})
	}
}

// sectors writes so many sectors of the log, one by one, of a transaction 1 that is over at the end of each.
func sectors(x *trio, t *testing.T, n int) {
	t.Helper()
	for range n {
		x.do(t, begin(1), write(1, 0, 0, "s"), commit(1), flush())
	}
}

func checkpoints(x *trio, t *testing.T) {
	t.Helper()
	x.do(t, check(), check(), check(), check())
}

func TestTrimByTheCheckpoint(t *testing.T) {
	for n := range 14 {
		x := newTrio(t, api.Config{Pages: 1, Frames: 1, Log: 30})
		sectors(x, t, n)
		if n > 0 {
			x.do(t, evict(0))
		}
		refused(t, x, trim(), api.ErrState)
		checkpoints(x, t) // its RBegin is in the sector n + 1, and so is the end of what is safe
		x.do(t, archive())
		wantTrim(t, x, n+1)
		refused(t, x, trim(), api.ErrState)
		sectors(x, t, 9)
		x.do(t, evict(0), archive())
		refused(t, x, trim(), api.ErrState) // what is behind the checkpoint is needed
		checkpoints(x, t)
		x.do(t, archive())
		wantTrim(t, x, n+11)
		refused(t, x, trim(), api.ErrState)
	}
}

// wantTrim does OTrim, of a log whose first sector that is needed is told.
func wantTrim(t *testing.T, x *trio, needed int) {
	t.Helper()
	low := []int{1, 1, 1, 1, 5, 5, 5, 5, 9, 9, 9, 9, 13, 13, 13, 13, 17, 17, 17, 17, 21, 21, 21, 21, 25, 25, 25, 25}[needed-1]
	e := api.OK
	if low == x.g.Low() {
		e = api.ErrState
	}
	if a := x.do(t, trim()); a.Err != e || x.g.Low() != low {
		t.Fatalf("%s: %s, low %d, not %d", x.last(), toldAnswer(a), x.g.Low(), low)
	}
	for _, y := range x.g.Log() {
		if y.At < 128*low {
			t.Fatalf("%s: there is a record at %d", x.last(), y.At)
		}
	}
}

// What a transaction, a page or the tape needs isn't let go, wherever the checkpoint is.
func TestTrimByTheOthers(t *testing.T) {
	for n := range 13 {
		x := newTrio(t, api.Config{Pages: 2, Frames: 1, Log: 40})
		sectors(x, t, n)
		x.do(t, begin(2), write(2, 1, 0, "first"), flush(), read(2, 0, 0, 1))
		sectors(x, t, 14-n)
		x.do(t, evict(0), archive())
		checkpoints(x, t)
		wantTrim(t, x, n+1) // the transaction 2
		x.do(t, commit(2), flush())
		wantTrim(t, x, 16)

		x = newTrio(t, api.Config{Pages: 2, Frames: 2, Log: 40})
		sectors(x, t, n)
		x.do(t, begin(2), write(2, 1, 0, "first"), commit(2), flush())
		sectors(x, t, 14-n)
		x.do(t, archive())
		if n > 0 {
			x.do(t, evict(0), read(1, 0, 0, 1))
		}
		checkpoints(x, t)
		x.do(t, evict(x.p.holds(0)))
		wantTrim(t, x, n+1) // the page 1
		x.do(t, evict(x.p.holds(1)))
		wantTrim(t, x, 16)

		x = newTrio(t, api.Config{Pages: 2, Frames: 1, Log: 40})
		sectors(x, t, n)
		x.do(t, archive())
		sectors(x, t, 15-n)
		x.do(t, evict(0))
		checkpoints(x, t)
		wantTrim(t, x, n+1) // the tape
		x.do(t, archive())
		wantTrim(t, x, 16)
	}
}

// A trim flushes, also if it is refused then, and tells whose commits are safe by that.
func TestTrimFlushes(t *testing.T) {
	x := start(t, middle(), begin(1), write(1, 0, 0, "a"), commit(1))
	expect(t, x, want{trim(), api.ErrState, "", []int{1}})
	x.do(t, crash(0), begin(1))
	if short(x.g.Pages()[0]) != "a" {
		t.Errorf("%q", short(x.g.Pages()[0]))
	}
	x = newTrio(t, middle())
	sectors(x, t, 6)
	x.do(t, evict(0), check(), check(), check(), check(), archive(), begin(9), commit(9))
	expect(t, x, want{trim(), api.OK, "", []int{9}})
}

// Of what the log let go a crash brings nothing back, and it is needed no more.
func TestACrashBehindATrim(t *testing.T) {
	for frames := 1; frames < 4; frames++ {
		x := newTrio(t, api.Config{Pages: 3, Frames: frames, Log: 12})
		for i := range 40 {
			x.do(t, begin(1), write(1, i%3, i, "x"), commit(1), flush(), begin(2), write(2, (i+1)%3, i, "-"), evict(0))
			if i%2 == 0 {
				x.do(t, abort(2))
			} else {
				x.do(t, crash(i%5, 1), abort(2))
			}
			x.do(t, check(), check(), check(), check(), archive(), evict(0), trim())
			x.do(t, crash(i%4, uint8(i)), flush())
		}
		if x.g.Low() < 40 {
			t.Errorf("%d frames: low %d", frames, x.g.Low())
		}
	}
}

func TestArchive(t *testing.T) {
	x := start(t, middle(), begin(1), write(1, 0, 0, "a"), commit(1))
	expect(t, x, want{archive(), api.OK, "", nil})
	if x.g.Upto() != 1 {
		t.Fatalf("nothing is safe: Upto %d", x.g.Upto())
	}
	expect(t, x, want{flush(), api.OK, "", []int{1}}, want{begin(1), api.OK, "", nil}, want{write(1, 0, 0, "b"), api.OK, "", nil}, want{archive(), api.OK, "", nil})
	if x.g.Upto() != 2 {
		t.Fatalf("one sector is safe: Upto %d", x.g.Upto())
	}
	x.do(t, crash(0), archive())
	if x.g.Upto() != 2 {
		t.Fatalf("behind a crash: Upto %d", x.g.Upto())
	}
}

// P4: a page that is lost is put together again, wherever its records are, and whoever changed it.
func TestZero(t *testing.T) {
	x := newTrio(t, middle())
	for _, n := range wild() {
		if n < 0 || n > 2 {
			refused(t, x, zero(n), api.ErrRange)
		}
	}
	for i := range 3 {
		unchanged(t, x, zero(i)) // noughts they stay
	}
	x.do(t, begin(1), write(1, 0, 0, "a"), commit(1), begin(2), write(2, 1, 3, "bcd"))
	expect(t, x, want{zero(1), api.OK, "", []int{1}}) // its flush
	expect(t, x, want{evict(0), api.OK, "", nil}, want{evict(1), api.ErrNone, "", nil})
	expect(t, x, want{read(2, 1, 3, 3), api.OK, "bcd", nil}, want{abort(2), api.OK, "", nil}, want{zero(1), api.OK, "", nil}, want{zero(0), api.OK, "", nil})
	if p := x.g.Pages(); short(p[0]) != "a" || short(p[1]) != "" {
		t.Errorf("%q, %q", short(p[0]), short(p[1]))
	}
}

// unchanged does an operation that goes well, and changes nothing that an engine tells.
func unchanged(t *testing.T, x *trio, o api.Op) {
	t.Helper()
	refused(t, x, o, api.OK)
}

func TestZeroOfWhatTheLogLetGo(t *testing.T) {
	x := newTrio(t, api.Config{Pages: 3, Frames: 1, Log: 10})
	for i := range 60 {
		x.do(t, begin(1), write(1, i%3, 3*i, fmt.Sprint(i)), commit(1), flush(), evict(0), check(), check(), check(), check(), archive(), trim())
	}
	x.do(t, begin(1), write(1, 1, 0, "live"), begin(2), write(2, 2, 0, "alive"))
	for i := range 3 {
		ahead := x.g.Pages()
		expect(t, x, want{zero(i), api.OK, "", nil})
		if !slices.Equal(x.g.Pages(), ahead) {
			t.Fatalf("the page %d", i)
		}
	}
	x.do(t, crash(2, 1), abort(1), zero(0), zero(1), zero(2), crash(0), flush())
	if x.g.Low() < 30 {
		t.Errorf("low %d", x.g.Low())
	}
}

// P16.3: commits.

func TestAckedInTheOrderOfTheCommits(t *testing.T) {
	x := start(t, middle(), begin(3), begin(1), begin(2), begin(9), write(3, 0, 0, "c"), commit(3), commit(1), begin(1), commit(2), commit(1))
	if p := x.g.Pending(); !slices.Equal(p, []int{3, 1, 2, 1}) {
		t.Fatalf("Pending %v", p)
	}
	expect(t, x, want{mark(9), api.OK, "\x00", nil}, want{flush(), api.OK, "", []int{3, 1, 2, 1}}, want{flush(), api.OK, "", nil})
	if p := x.g.Pending(); len(p) > 0 {
		t.Fatalf("Pending %v", p)
	}
}

// Whoever flushes tells it: beside its own answer.
func TestEachThatFlushesAcknowledges(t *testing.T) {
	c := api.Config{Pages: 2, Frames: 1, Log: 20}
	for _, o := range []want{
		{flush(), api.OK, "", []int{1}},
		{evict(0), api.OK, "", []int{1}},
		{read(2, 1, 0, 2), api.OK, "\x00\x00", []int{1}},
		{write(2, 1, 0, "x"), api.OK, "", []int{1}},
		{add(2, 1, 0, 1), api.OK, cell.Bytes(1), []int{1}},
		{trim(), api.ErrState, "", []int{1}},
		{zero(1), api.OK, "", []int{1}},
		{check(), api.OK, "", nil},
		{archive(), api.OK, "", nil},
		{mark(2), api.OK, "\x00", nil},
		{commit(2), api.OK, "", nil},
		{abort(2), api.OK, "", nil},
		{begin(3), api.OK, "", nil},
		{read(2, 0, 0, 1), api.OK, "a", nil},
		{read(2, 5, 0, 1), api.ErrRange, "", nil},
		{crash(1), api.OK, "", nil},
	} {
		x := start(t, c, begin(2), begin(1), write(1, 0, 0, "a"), commit(1))
		expect(t, x, o)
		pending := []int{1}
		if o.acked != nil {
			pending = nil
		}
		if o.o.Kind == api.OCommit {
			pending = []int{1, 2}
		}
		if p := x.g.Pending(); !slices.Equal(p, pending) {
			t.Fatalf("behind %v: Pending %v", o.o, p)
		}
	}
	x := start(t, c, begin(1), commit(1), check(), check())
	expect(t, x, want{check(), api.OK, "", []int{1}})
}

func TestCommit(t *testing.T) {
	for _, txn := range wild() {
		refused(t, newTrio(t, middle()), commit(txn), api.ErrNone)
	}
	x := start(t, middle(), begin(6), write(6, 0, 0, "a"), commit(6))
	refused(t, x, commit(6), api.ErrNone)
	refused(t, x, abort(6), api.ErrNone)
	refused(t, x, read(6, 0, 0, 1), api.ErrNone)
	wantLog(t, x, 6, []int{128, 142}, []api.Rec{{Kind: api.RUpdate, Before: "\x00", After: "a"}, {Kind: api.RCommit}})
	x = start(t, middle(), begin(6), commit(6))
	wantLog(t, x, 6, []int{128}, []api.Rec{{Kind: api.RCommit}})
	// A commit that wasn't acknowledged, but is there behind a crash, isn't acknowledged any more.
	x.do(t, crash(1, 1), flush())
	if len(x.g.Pending()) > 0 || len(x.g.Log()) != 1 {
		t.Errorf("%v, %v", x.g.Pending(), x.g.Log())
	}
	expect(t, x, want{flush(), api.OK, "", nil})
}

// P16.5: what an engine tells.

func TestNoEngine(t *testing.T) {
	for _, g := range []*engine.Engine{nil, new(engine.Engine)} {
		for kind := -1; kind < 18; kind++ {
			for range 3 {
				if a := g.Do(api.Op{Kind: kind, Txn: 1, N: 1, Data: "a", Picks: []uint8{1}}); !sameAnswer(a, api.Answer{Err: api.ErrNil}) {
					t.Errorf("kind %d: %s", kind, toldAnswer(a))
				}
			}
		}
		if len(g.Pages())+len(g.Live())+len(g.Pending())+len(g.Log()) != 0 || g.Low()+g.Room()+g.Need()+g.Upto() != 0 {
			t.Errorf("%s", state(g))
		}
	}
}

// shares tells whether two texts have a byte of memory in common.
func shares(a, b string) bool {
	if a == "" || b == "" {
		return false
	}
	p, q := uintptr(unsafe.Pointer(unsafe.StringData(a))), uintptr(unsafe.Pointer(unsafe.StringData(b)))
	return p < q+uintptr(len(b)) && q < p+uintptr(len(a))
}

// texts is all texts that an engine hands out.
func texts(g *engine.Engine) []string {
	list := g.Pages()
	for _, x := range g.Log() {
		list = append(list, x.R.Before, x.R.After)
	}
	return list
}

func TestAnswersAreNewMemory(t *testing.T) {
	data := strings.Repeat("data", 4)
	x := start(t, api.Config{Pages: 3, Frames: 1, Log: 40}, begin(1), write(1, 0, 0, data), begin(2), write(2, 1, 0, data[:9]), begin(3), mark(1), commit(1), begin(4), commit(3), check(), check())
	own := append(texts(x.g), data, x.do(t, read(2, 1, 0, 9)).Data, x.do(t, read(2, 1, 0, 9)).Data, x.do(t, add(2, 1, 20, 1)).Data)
	own = append(own, texts(x.g)...)
	for i := range own {
		for j := range i {
			if shares(own[i], own[j]) {
				t.Fatalf("%q and %q have memory in common", short(own[i]), short(own[j]))
			}
		}
	}
	ahead := state(x.g)
	pages, live, pending, log := x.g.Pages(), x.g.Live(), x.g.Pending(), x.g.Log()
	for i := range pages {
		pages[i] = "?"
	}
	for _, list := range [][]int{live[:cap(live)], pending[:cap(pending)]} {
		for i := range list {
			list[i] = -1
		}
	}
	for i := range log {
		for k := range log[i].R.Txns {
			log[i].R.Txns[k] = api.TxnRow{}
		}
		for k := range log[i].R.Pages {
			log[i].R.Pages[k] = api.PageRow{}
		}
		log[i] = api.Entry{}
	}
	if state(x.g) != ahead {
		t.Fatalf("it was written over: %s, not %s", state(x.g), ahead)
	}
	acked := x.do(t, commit(4), flush()).Acked
	for i := range acked[:cap(acked)] {
		acked[:cap(acked)][i] = -1
	}
	x.do(t, begin(1), commit(1), begin(3), commit(3), flush(), crash(0), flush())
}

// An engine that is asked in between tells and does the same as one that isn't.
func TestAskingChangesNothing(t *testing.T) {
	for seed := range 40 {
		d := dice(seed)
		c := api.Config{Pages: 4, Frames: 1 + seed%3, Log: 12}
		a, b := made(t, c), made(t, c)
		for i := range 120 {
			o := d.op(c, moods()[seed%4])
			for range d.below(3) {
				state(a)
			}
			x, y := a.Do(o), b.Do(o)
			if !sameAnswer(x, y) {
				t.Fatalf("seed %d, %d, %v: %s, and unasked %s", seed, i, o, toldAnswer(x), toldAnswer(y))
			}
		}
		if state(a) != state(b) {
			t.Fatalf("seed %d: %s, and unasked %s", seed, state(a), state(b))
		}
	}
}

// P16.6: the log is never found full by who gives up.

func TestJustFull(t *testing.T) {
	for log := 8; log < 20; log++ {
		for txns := 1; txns <= 4; txns++ {
			c := api.Config{Pages: 4, Frames: 1 + log%3, Log: log}
			x := crammed(t, c, txns)
			for n := range txns {
				refused(t, x, write(n+1, n, 0, "x"), api.ErrFull)
				refused(t, x, add(n+1, n, 0, 1), api.ErrFull)
			}
			one := x.g.Room() == x.g.Need()+1
			if one && txns < 4 {
				expect(t, x, want{begin(9), api.OK, "", nil})
				refused(t, x, begin(10), api.ErrFull)
				expect(t, x, want{abort(9), api.OK, "", nil})
			} else {
				refused(t, x, begin(9), api.ErrFull)
			}
			for n := range txns {
				o := []api.Op{back(n+1, 0), abort(n + 1), commit(n + 1)}[(n+log)%3]
				if a := x.do(t, o); a.Err != api.OK {
					t.Fatalf("%s: %s", x.last(), toldAnswer(a))
				}
				x.do(t, flush())
			}
			for n := range txns {
				x.do(t, abort(n+1), flush())
			}
			if x.g.Need() != 0 {
				t.Fatalf("%s: Need %d", x.last(), x.g.Need())
			}
		}
	}
}

// crammed is an engine whose log has room for no change, by transactions that have a savepoint and a page each, and a sector for each change.
func crammed(t *testing.T, c api.Config, txns int) *trio {
	t.Helper()
	x := newTrio(t, c)
	for n := range txns {
		x.do(t, begin(n+1), mark(n+1))
	}
	for n := 0; x.g.Room() >= x.g.Need()+2; n = (n + 1) % txns {
		if a := x.do(t, write(n+1, n, x.g.Room(), "x"), flush()); a.Err != api.OK {
			t.Fatalf("%s: %s", x.last(), toldAnswer(a))
		}
	}
	return x
}

// Where a log is just full, a restart undoes all, also if the power goes amid that, again and again.
func TestARestartOfAFullLog(t *testing.T) {
	for log := 8; log < 16; log++ {
		for txns := 1; txns <= 4; txns++ {
			for k := range 12 {
				c := api.Config{Pages: 4, Frames: 1 + log%2, Log: log}
				x := crammed(t, c, txns)
				for i := range 8 {
					x.do(t, crash(k+i, 1, uint8(k%3)))
				}
				if a := x.do(t, abort(1+k%txns)); !a.Down || len(x.g.Live()) > 0 {
					t.Fatalf("%s: %s", x.last(), toldAnswer(a))
				}
				if strings.Trim(strings.Join(x.g.Pages(), ""), "\x00") != "" {
					t.Fatalf("%s: the pages aren't noughts", x.last())
				}
			}
		}
	}
}

// A log that is nearly full has room again as soon as it may let something go.
func TestRoomAgain(t *testing.T) {
	x := newTrio(t, api.Config{Pages: 4, Frames: 4, Log: 8})
	for i := range 30 {
		for x.g.Room() > 2 {
			x.do(t, begin(1), write(1, 0, i, "x"), commit(1), flush())
		}
		x.do(t, begin(1))
		refused(t, x, write(1, 0, i, "y"), api.ErrFull)
		expect(t, x, want{evict(0), api.OK, "", nil})
		x.do(t, crash(0), abort(1))
		x.do(t, check(), check(), check(), check(), archive())
		expect(t, x, want{trim(), api.OK, "", nil}, want{begin(1), api.OK, "", nil}, want{write(1, 0, i, "y"), api.OK, "", nil}, want{abort(1), api.OK, "", nil})
	}
	if x.g.Low() < 100 {
		t.Errorf("low %d, room %d", x.g.Low(), x.g.Room())
	}
}

// P1 to P5, over each short history.

func TestEachShortHistory(t *testing.T) {
	steps := [][]api.Op{
		{begin(1), write(1, 0, 0, "a"), write(1, 1, 2, "b")},
		{begin(2), mark(2), add(2, 1, 0, 1)},
		{back(2, 0), write(2, 0, 1, "c")},
		{commit(1)},
		{commit(2), flush()},
		{abort(1)},
		{evict(0)},
		{check(), check()},
		{archive(), trim()},
		{crash(1, 1), flush()},
		{crash(4, 1, 2), crash(2, 0, 1), evict(0)},
		{zero(1)},
	}
	for n := range 4 {
		number := make([]int, n)
		for {
			x := newTrio(t, api.Config{Pages: 2, Frames: 1, Log: 8})
			for _, i := range number {
				x.do(t, steps[i]...)
			}
			x.do(t, crash(9, 1), flush())
			if !next(number, len(steps)) {
				break
			}
		}
	}
}

// next makes of digits those of the number one above; false, if there is none.
func next(digits []int, base int) bool {
	for i := range digits {
		digits[i]++
		if digits[i] < base {
			return true
		}
		digits[i] = 0
	}
	return false
}
