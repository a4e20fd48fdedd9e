package engine_test

import (
	"fmt"
	"maps"
	"math"
	"os"
	"runtime/debug"
	"slices"
	"strings"
	"testing"

	"careen/api"
	"careen/cell"
	"careen/engine"
	"careen/record"
)

// TestMain has the memory swept seldom: many small engines are made, and let go at once.
func TestMain(m *testing.M) {
	debug.SetGCPercent(1000)
	os.Exit(m.Run())
}

// A simple model, that knows of no log and no disk: pages, locks, and for each transaction the pages as they were.

type serialTxn struct {
	locks map[int]int
	was   map[int]string   // each page that it changed, as it was ahead of that
	marks []map[int]string // each of these, as it was at the mark
}

type serial struct {
	now  []string
	past [][]string // the pages behind each commit, from the last one on that is safe for sure
	txns map[int]*serialTxn
}

func newSerial(pages int) *serial {
	s := &serial{now: slices.Repeat([]string{strings.Repeat("\x00", 220)}, pages), txns: map[int]*serialTxn{}}
	s.past = [][]string{slices.Clone(s.now)}
	return s
}

// committed is the pages without the changes of those that aren't over.
func (s *serial) committed() []string {
	list := slices.Clone(s.now)
	for _, t := range s.txns {
		for i, was := range t.was {
			list[i] = was
		}
	}
	return list
}

// may tells whether a transaction can have a page.
func (s *serial) may(txn, page, mode int) bool {
	for n, t := range s.txns {
		if n != txn && t.locks[page] > 0 && (mode == api.Alone || t.locks[page] == api.Alone) {
			return false
		}
	}
	return true
}

// do answers what an operation of a transaction brings, if there is room for it; that is only looked at, if full.
func (s *serial) do(o api.Op, full bool) (string, api.Errno) {
	t := s.txns[o.Txn]
	switch {
	case o.Kind == api.OBegin:
		return "", s.begin(o.Txn, full)
	case t == nil:
		return "", api.ErrNone
	}
	switch o.Kind {
	case api.ORead, api.OWrite, api.OAdd:
		return s.touch(t, o, full)
	case api.OMark:
		if len(t.marks) == 4 {
			return "", api.ErrFull
		}
		m := map[int]string{}
		for i := range t.was {
			m[i] = s.now[i]
		}
		t.marks = append(t.marks, m)
		return fmt.Sprintf("%c", len(t.marks)-1), api.OK
	case api.OBack:
		if o.N < 0 || o.N >= len(t.marks) {
			return "", api.ErrNone
		}
		for i, was := range t.was {
			s.now[i] = was
		}
		for i, text := range t.marks[o.N] {
			s.now[i] = text
		}
		t.marks = t.marks[:o.N+1]
	case api.OCommit:
		delete(s.txns, o.Txn)
		s.past = append(s.past, s.committed())
	case api.OAbort:
		for i, was := range t.was {
			s.now[i] = was
		}
		delete(s.txns, o.Txn)
	}
	return "", api.OK
}

func (s *serial) begin(txn int, full bool) api.Errno {
	switch {
	case txn < 1 || txn > math.MaxInt32:
		return api.ErrArg
	case s.txns[txn] != nil:
		return api.ErrOnce
	case len(s.txns) >= 4 || full:
		return api.ErrFull
	}
	s.txns[txn] = &serialTxn{locks: map[int]int{}, was: map[int]string{}}
	return api.OK
}

func (s *serial) touch(t *serialTxn, o api.Op, full bool) (string, api.Errno) {
	n := map[int]int{api.ORead: o.N, api.OWrite: len(o.Data), api.OAdd: 8}[o.Kind]
	mode := api.Alone
	if o.Kind == api.ORead {
		mode = api.Shared
	}
	switch {
	case o.Page < 0 || o.Page >= len(s.now) || n < 1 || n > 16 || o.Off < 0 || o.Off > 220 || o.Off+n > 220:
		return "", api.ErrRange
	case !s.may(o.Txn, o.Page, mode):
		return "", api.ErrLock
	case mode == api.Alone && full:
		return "", api.ErrFull
	}
	t.locks[o.Page] = max(t.locks[o.Page], mode)
	old := s.now[o.Page]
	text := o.Data
	switch o.Kind {
	case api.ORead:
		return old[o.Off : o.Off+n], api.OK
	case api.OAdd:
		text, _ = cell.Add(old[o.Off:o.Off+8], o.F)
	}
	if _, ok := t.was[o.Page]; !ok {
		t.was[o.Page] = old
	}
	s.now[o.Page] = old[:o.Off] + text + old[o.Off+n:]
	if o.Kind == api.OWrite {
		text = ""
	}
	return text, api.OK
}

// down goes on from pages that a crash left; false, if they aren't those of a beginning of the commits, with all that are safe for sure.
func (s *serial) down(pages []string) bool {
	for _, list := range s.past {
		if slices.Equal(list, pages) {
			s.now, s.past, s.txns = slices.Clone(pages), [][]string{slices.Clone(pages)}, map[int]*serialTxn{}
			return true
		}
	}
	return false
}

// trio is an engine, and what two models make of the same.
type trio struct {
	g    *engine.Engine
	p    *plain
	s    *serial
	told []api.Op
}

func newTrio(t *testing.T, c api.Config) *trio {
	t.Helper()
	return &trio{g: made(t, c), p: newPlain(c), s: newSerial(c.Pages)}
}

func made(t *testing.T, c api.Config) *engine.Engine {
	t.Helper()
	g, e := engine.New(c)
	if e != api.OK || g == nil {
		t.Fatalf("New(%v): %v, %d", c, g, e)
	}
	return g
}

// do does operations on all three, and holds all that the engine tells against the models; the last answer.
func (x *trio) do(t *testing.T, list ...api.Op) (a api.Answer) {
	t.Helper()
	for _, o := range list {
		x.told = append(x.told, o)
		a = x.g.Do(o)
		if want := x.p.do(o); !sameAnswer(a, want) {
			t.Fatalf("%s: %s, not %s", x.last(), toldAnswer(a), toldAnswer(want))
		}
		if d := differ(x.g, x.p); d != "" {
			t.Fatalf("behind %s: %s", x.last(), d)
		}
		if d := x.simple(o, a); d != "" {
			t.Fatalf("%s: %s: %s", x.last(), toldAnswer(a), d)
		}
	}
	return a
}

// hear tells the simple model of an operation, and what is wrong in the answer.
func (x *trio) hear(o api.Op, a api.Answer) string {
	if o.Kind >= api.OBegin && o.Kind <= api.OAbort && a.Err != api.ErrDead {
		if data, e := x.s.do(o, a.Err == api.ErrFull); data != a.Data || e != a.Err {
			return fmt.Sprintf("the simple model has %q, %d", data, e)
		}
	}
	if len(a.Acked) >= len(x.s.past) {
		return fmt.Sprintf("Acked %v of %d commits", a.Acked, len(x.s.past)-1)
	}
	x.s.past = x.s.past[len(a.Acked):]
	return ""
}

// simple holds what the engine tells behind an operation against the simple model, and tells what is wrong.
func (x *trio) simple(o api.Op, a api.Answer) string {
	if d := x.hear(o, a); d != "" {
		return d
	}
	pages := x.g.Pages()
	switch {
	case a.Down && !x.s.down(pages):
		return "the pages aren't those of a beginning of the commits"
	case !slices.Equal(pages, x.s.now):
		return "the pages aren't those of the simple model"
	case !slices.Equal(x.g.Live(), slices.Sorted(maps.Keys(x.s.txns))):
		return "the transactions aren't those of the simple model"
	case x.g.Room() < x.g.Need():
		return fmt.Sprintf("Room %d, Need %d", x.g.Room(), x.g.Need())
	case o.Kind == api.OFlush && len(x.g.Pending()) > 0:
		return "behind a flush commits are pending"
	case x.g.Low() > x.g.Upto():
		return "the log let go what the tape hasn't"
	case x.g.Low() == 1 && kinds(x.g.Log())[api.RUndo] > kinds(x.g.Log())[api.RUpdate]:
		return "more RUndos than RUpdates"
	}
	return ""
}

// last tells the last operations.
func (x *trio) last() string {
	n := max(0, len(x.told)-12)
	return fmt.Sprintf("config %v, behind %d operations: %v", x.p.c, n, x.told[n:])
}

// differ tells what an engine tells otherwise than the plain one.
func differ(g *engine.Engine, p *plain) string {
	log, numbers := g.Log(), [...]int{g.Low(), g.Room(), g.Need(), g.Upto()}
	var pending []int
	for _, x := range p.pending {
		pending = append(pending, x.R.Txn)
	}
	switch want := [...]int{p.low, p.room(), p.need(), p.upto}; {
	case numbers != want:
		return fmt.Sprintf("Low, Room, Need, Upto: %v, not %v", numbers, want)
	case !slices.Equal(g.Live(), slices.Sorted(maps.Keys(p.txns))):
		return fmt.Sprintf("Live: %v", g.Live())
	case !slices.Equal(g.Pending(), pending):
		return fmt.Sprintf("Pending: %v, not %v", g.Pending(), pending)
	case !sameEntries(log, p.list):
		return "Log: " + differLogs(log, p.list)
	}
	pages := g.Pages()
	if len(pages) != p.c.Pages {
		return fmt.Sprintf("%d pages", len(pages))
	}
	for i := range pages {
		if want := p.peek(i).Data; pages[i] != want {
			return fmt.Sprintf("the page %d: %q, not %q", i, short(pages[i]), short(want))
		}
	}
	return ""
}

func sameEntries(a, b []api.Entry) bool {
	return slices.EqualFunc(a, b, func(x, y api.Entry) bool { return x.At == y.At && record.Same(x.R, y.R) })
}

// differLogs tells where two logs part.
func differLogs(got, want []api.Entry) string {
	i := 0
	for i < len(got) && i < len(want) && sameEntries(got[i:i+1], want[i:i+1]) {
		i++
	}
	return fmt.Sprintf("%d records, not %d; from the record %d on\n %+v\nnot\n %+v", len(got), len(want), i, got[i:min(i+1, len(got))], want[i:min(i+1, len(want))])
}

func sameAnswer(a, b api.Answer) bool {
	return a.Err == b.Err && a.Data == b.Data && a.Down == b.Down && slices.Equal(a.Acked, b.Acked)
}

func toldAnswer(a api.Answer) string {
	return fmt.Sprintf("{%d %q %v %v}", a.Err, a.Data, a.Acked, a.Down)
}

// short is a page as one reads it: without the noughts at the end.
func short(s string) string {
	return strings.TrimRight(s, "\x00")
}

// kinds counts a log's records by their kinds.
func kinds(log []api.Entry) map[int]int {
	n := map[int]int{}
	for _, x := range log {
		n[x.R.Kind]++
	}
	return n
}

// Operations in short.

func begin(txn int) api.Op { return api.Op{Kind: api.OBegin, Txn: txn} }
func read(txn, page, off, n int) api.Op {
	return api.Op{Kind: api.ORead, Txn: txn, Page: page, Off: off, N: n}
}
func mark(txn int) api.Op                { return api.Op{Kind: api.OMark, Txn: txn} }
func back(txn, n int) api.Op             { return api.Op{Kind: api.OBack, Txn: txn, N: n} }
func commit(txn int) api.Op              { return api.Op{Kind: api.OCommit, Txn: txn} }
func abort(txn int) api.Op               { return api.Op{Kind: api.OAbort, Txn: txn} }
func flush() api.Op                      { return api.Op{Kind: api.OFlush} }
func evict(n int) api.Op                 { return api.Op{Kind: api.OEvict, N: n} }
func check() api.Op                      { return api.Op{Kind: api.OCheck} }
func trim() api.Op                       { return api.Op{Kind: api.OTrim} }
func archive() api.Op                    { return api.Op{Kind: api.OArchive} }
func zero(page int) api.Op               { return api.Op{Kind: api.OZero, Page: page} }
func crash(n int, picks ...uint8) api.Op { return api.Op{Kind: api.OCrash, N: n, Picks: picks} }

func write(txn, page, off int, s string) api.Op {
	return api.Op{Kind: api.OWrite, Txn: txn, Page: page, Off: off, Data: s}
}

func add(txn, page, off int, f float64) api.Op {
	return api.Op{Kind: api.OAdd, Txn: txn, Page: page, Off: off, F: f}
}

// wild is numbers of all sizes, the least and the greatest ones too, rising.
func wild() []int {
	return []int{math.MinInt, math.MinInt + 1, -1 << 40, -1 << 32, -1 << 31, -257, -2, -1, 0, 1, 2, 3, 5, 7, 8, 9, 16, 17, 64, 65, 220, 221, 255, 256, 257, 1<<31 - 1, 1 << 31, 1 << 32, 1<<32 + 1, 1<<32 + 8, 1 << 40, math.MaxInt - 1, math.MaxInt}
}

// dice is numbers that look thrown, the same ones each time.
type dice uint64

func (d *dice) below(n int) int {
	*d = *d*6364136223846793005 + 1442695040888963407
	return int(uint64(*d) >> 33 % uint64(n))
}

// one is one of some numbers.
func (d *dice) one(n ...int) int {
	return n[d.below(len(n))]
}

// text is some bytes.
func (d *dice) text(n int) string {
	b := make([]byte, n)
	for i := range b {
		b[i] = byte(d.below(256))
	}
	return string(b)
}

// float is a number with its edges.
func (d *dice) float() float64 {
	return []float64{0, math.Copysign(0, -1), 1, -1, 0.1, math.Inf(1), math.Inf(-1), math.NaN(), 1 << 53, math.MaxFloat64}[d.below(10)]
}

// picks is what becomes of some writes.
func (d *dice) picks() []uint8 {
	var list []uint8
	for range d.below(5) {
		list = append(list, uint8(d.one(0, 1, 2, 3, 4, 5, 255)))
	}
	return list
}

// moods are how often each kind of operation comes, and last one that is none.
func moods() [][16]int {
	return [][16]int{
		{0, 12, 7, 20, 6, 5, 5, 6, 3, 5, 4, 10, 4, 3, 1, 4},
		{0, 8, 3, 17, 14, 3, 3, 3, 1, 5, 9, 7, 4, 3, 1, 20},
		{0, 10, 2, 20, 3, 25, 14, 1, 1, 2, 2, 4, 1, 1, 1, 3},
		{0, 10, 2, 30, 3, 2, 2, 3, 2, 9, 2, 32, 8, 6, 1, 2},
	}
}

// op is an operation; most may be, some may not.
func (d *dice) op(c api.Config, mood [16]int) api.Op {
	o := api.Op{Txn: 1 + d.below(3), Page: d.below(c.Pages)}
	if d.below(30) == 0 {
		o.Txn = d.one(wild()...)
	}
	if d.below(30) == 0 {
		o.Page = d.one(wild()...)
	}
	for k := d.below(100); o.Kind < 15 && k >= 0; k -= mood[o.Kind] {
		o.Kind++
	}
	switch o.Kind {
	case api.OBegin:
		o.Txn = d.one(o.Txn, 1+d.below(6))
	case api.ORead:
		o.N = d.one(1, 2, 8, 16, d.below(19))
		o.Off = d.one(0, 220-o.N, d.below(222))
	case api.OWrite:
		o.Data = d.text(d.one(1, 2, 5, 16, d.below(19)))
		o.Off = d.one(0, 8, 220-len(o.Data), d.below(222))
	case api.OAdd:
		o.Off, o.F = d.one(0, 4, 8, 212, d.below(214)), d.float()
	case api.OBack:
		o.N = d.one(0, 1, 2, d.below(6)-1)
	case api.OEvict:
		o.N = d.one(0, 0, 1, d.below(c.Frames), d.below(10)-1)
	case api.OCrash:
		o.N, o.Picks = d.one(-1, 0, 1, 2, 3, d.below(16)), d.picks()
	}
	if d.below(100) == 0 {
		o.Kind = d.one(wild()...)
	}
	return o
}

// All promises, over thrown histories.

func TestThrownHistories(t *testing.T) {
	met := map[string]int{}
	for seed := range 600 {
		d := dice(seed)
		c := api.Config{Pages: d.one(1, 2, 3, 1+d.below(8)), Frames: d.one(1, 1, 2, 3, 1+d.below(8)), Log: d.one(8, 9, 12, 16, 8+d.below(57))}
		x := newTrio(t, c)
		for range 200 {
			list := []api.Op{d.op(c, moods()[seed%4])}
			if d.below(20) == 0 {
				list = append(list, check(), check(), check(), check(), archive(), trim())
			}
			for _, o := range list {
				waits := len(x.p.crashes)
				a := x.do(t, o)
				met[fmt.Sprint(min(max(o.Kind, 0), 16), " ", a.Err)]++
				if a.Down {
					met[fmt.Sprint("down ", waits)]++
				}
				met["acked"] += len(a.Acked)
			}
		}
		met["far"] += (x.g.Low() - 1) / c.Log
	}
	wantMet(t, met, 5, "1 0", "1 1", "1 5", "1 9", "2 0", "2 2", "2 6", "2 7", "3 0", "3 2", "3 4", "3 5", "3 6", "3 7", "4 0", "4 4", "4 5", "4 6", "5 0", "5 5", "6 0", "6 7", "7 0", "8 0", "9 0", "9 4", "10 0", "10 2", "10 4", "10 7", "11 0", "11 5", "11 4", "12 0", "12 4", "12 11", "13 0", "14 0", "15 0", "16 1", "down 1", "down 2", "acked", "far")
}

// wantMet tells what wasn't met often enough for the test to be one.
func wantMet(t *testing.T, met map[string]int, least int, list ...string) {
	t.Helper()
	for _, s := range list {
		if met[s] < least {
			t.Errorf("%q was met %d times only", s, met[s])
		}
	}
}
