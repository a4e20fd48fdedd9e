package tape_test

import (
	"fmt"
	"slices"
	"strings"
	"testing"
	"unsafe"

	"careen/api"
	"careen/disk"
	"careen/slab"
	"careen/tape"
	"careen/wal"
)

// The chapter's example.

func TestExample(t *testing.T) {
	b := newBoth(t)
	b.append(t, up(0, 0, "a"), up(0, 1, "b"))
	b.flush()
	wantAdd(t, "two safe records", b.x, b.l, 2, api.OK)
	b.append(t, up(0, 2, "c"), commit(1))
	all := slices.Clone(b.p.list)
	wantTape(t, "two safe records", b.x, 2, all[:2])
	if e := b.l.Cut(2); e != api.OK {
		t.Fatalf("Cut(2): %d", e)
	}
	wantWhole(t, "the log let its sector 1 go", b.x, b.l, all, api.OK)
	wantPage(t, "the log let its sector 1 go", b.x, b.l, 0, with(256, "abc"), api.OK)
}

// All promises, over many histories.

// steps are what may be done to a log and a tape.
func steps() []func(t *testing.T, b *both) {
	return []func(t *testing.T, b *both){
		func(t *testing.T, b *both) { b.append(t, up(0, len(b.p.list), "a")) },
		func(t *testing.T, b *both) { b.append(t, long(1), un(1, 1, fmt.Sprint(len(b.p.list)))) }, // two sectors
		func(t *testing.T, b *both) { b.flush() },
		func(t *testing.T, b *both) { b.cut(b.p.low + 1) },
		func(t *testing.T, b *both) { b.cut(b.p.first) },
		func(t *testing.T, b *both) { b.add(t, "in a short history") },
		func(t *testing.T, b *both) { // the power goes amid a flush, and the first write is safe
			b.d.Arm(2)
			b.flush()
			b.crash(t, 1, 0)
		},
		func(t *testing.T, b *both) { // as much is written, but the first write is lost
			b.d.Arm(2)
			b.flush()
			b.crash(t, 0, 1)
		},
	}
}

func TestEachShortHistory(t *testing.T) {
	all := steps()
	for n := range 6 {
		number := make([]int, n)
		for {
			b := newBoth(t)
			for _, i := range number {
				all[i](t, b)
			}
			b.alike(t, fmt.Sprint("behind the steps ", number))
			if !next(number, len(all)) {
				break
			}
		}
	}
}

// next makes of digits those of the number one above; false, if there is none.
func next(digits []int, base int) bool {
	for i := range digits {
		digits[i]++
		if digits[i] < base {
			return true
		}
		digits[i] = 0
	}
	return false
}

// throw does one step as the dice fall, and tells what it was.
func (b *both) throw(t *testing.T, d *dice) string {
	t.Helper()
	switch k := d.below(40); {
	case k < 22:
		if b.append(t, d.record()) == 0 {
			return "no room"
		}
		return "append"
	case k < 28:
		b.flush()
		return "flush"
	case k < 31:
		b.cut(b.p.low + d.below(max(1, min(b.p.first, b.q.end)-b.p.low+1)))
		return "cut"
	case k == 31:
		b.cut(b.p.first)
		return "cut all"
	case k < 37:
		if b.add(t, "thrown") > 0 {
			return "add some"
		}
		return "add none"
	default:
		b.d.Arm(d.below(5))
		e := b.flush()
		b.crash(t, uint8(d.below(3)), uint8(d.below(3)), uint8(d.below(3)))
		return fmt.Sprint("crash ", e)
	}
}

func TestThrownHistories(t *testing.T) {
	met := map[string]int{}
	for seed := range 400 {
		d, b := dice(seed), newBoth(t)
		for range 150 {
			met[b.throw(t, &d)]++
			if d.below(8) == 0 {
				b.alike(t, fmt.Sprint("thrown, seed ", seed))
			}
			if b.p.low > b.q.end { // the log and the tape have lost each other: no more can come of it
				met["apart"]++
				b.add(t, "apart")
				b.alike(t, fmt.Sprint("apart, seed ", seed))
				break
			}
		}
		met["far"] += b.p.low / (2 * size)
	}
	for _, s := range []string{"no room", "append", "flush", "cut", "cut all", "add some", "add none", "crash 0", "crash 4", "apart", "far"} {
		if met[s] < 100 {
			t.Errorf("%s was met %d times only", s, met[s])
		}
	}
}

// P15.1: New, Upto, Add.

func TestNewHasNothing(t *testing.T) {
	wantTape(t, "New", tape.New(), 1, nil)
	if a, b := tape.New(), tape.New(); a == nil || a == b {
		t.Errorf("New: %p, and again %p", a, b)
	}
	wantTape(t, "a tape of noughts", new(tape.Tape), 1, nil)
}

func TestALogWithoutRecords(t *testing.T) {
	b := newBoth(t)
	for range 3 {
		wantAdd(t, "without records", b.x, b.l, 0, api.OK)
		b.alike(t, "without records")
		b.flush()
	}
	wantPage(t, "without records", b.x, b.l, 0, with(0, ""), api.OK)
}

func TestOnlyWhatIsSafe(t *testing.T) {
	b := newBoth(t)
	b.append(t, up(0, 0, "a"), up(1, 0, "b"))
	wantAdd(t, "nothing is safe", b.x, b.l, 0, api.OK)
	b.alike(t, "nothing is safe")
	b.append(t, long(1), long(2), up(0, 0, "c"))
	wantAdd(t, "nothing is safe in three sectors", b.x, b.l, 0, api.OK)
	b.alike(t, "nothing is safe in three sectors")
	b.flush()
	b.append(t, up(0, 0, "dddd"))
	all := slices.Clone(b.p.list)
	wantAdd(t, "three sectors are safe", b.x, b.l, 5, api.OK)
	wantTape(t, "three sectors are safe", b.x, 4, all[:5])
	wantWhole(t, "three sectors are safe", b.x, b.l, all, api.OK)
	wantAdd(t, "again", b.x, b.l, 0, api.OK)
	wantTape(t, "again", b.x, 4, all[:5])
	b.append(t, long(3))
	wantAdd(t, "the next ones aren't safe", b.x, b.l, 0, api.OK)
	wantTape(t, "the next ones aren't safe", b.x, 4, all[:5])
	b.flush()
	b.append(t, up(0, 0, "e"))
	wantAdd(t, "two more sectors are safe", b.x, b.l, 2, api.OK)
	wantTape(t, "two more sectors are safe", b.x, 6, b.p.list[:7])
}

// A flush that the power ends makes nothing safe, whatever it wrote.
func TestAFlushThatIsNotBorne(t *testing.T) {
	for k := range 4 {
		b := newBoth(t)
		b.append(t, up(0, 0, "a"), long(1), up(0, 1, "b"), long(2), commit(1))
		b.d.Arm(k)
		e := b.flush()
		if e != api.ErrDead || !b.d.Dead() {
			t.Fatalf("a fuse of %d: %d", k, e)
		}
		wantAdd(t, "not borne", b.x, b.l, 0, api.OK)
		wantTape(t, "not borne", b.x, 1, nil)
		wantWhole(t, "not borne", b.x, b.l, b.p.list, api.OK)
		b.alike(t, "not borne")
		b.crash(t, 1)
		wantAdd(t, "opened anew", b.x, b.l, len(b.p.list), api.OK)
		wantTape(t, "opened anew", b.x, b.p.first, b.p.list)
		if b.p.first != min(k+1, 4) {
			t.Fatalf("a fuse of %d: the log goes on in sector %d", k, b.p.first)
		}
	}
}

// Each way of one log: so many sectors are safe, and so many behind them aren't, the log keeps those from some one on, and the tape has those up to some one: of this log, or of a longer one with the same records ahead.
func TestEachEndBesideEachLow(t *testing.T) {
	met := map[api.Errno]int{}
	for safe := range 5 {
		for more := range 3 {
			for low := 1; low <= safe+1; low++ {
				for end := 1; end <= 7; end++ {
					met[grid(t, safe, more, low, end)]++
				}
			}
		}
	}
	if met[api.OK] < 150 || met[api.ErrState] < 50 {
		t.Errorf("met: %v", met)
	}
}

// grid looks at one of these ways, and tells what Add answered.
func grid(t *testing.T, safe, more, low, end int) api.Errno {
	t.Helper()
	b, c := newBoth(t), newBoth(t)
	for i := range end - 1 {
		c.append(t, long(i), commit(i+1))
	}
	c.flush()
	c.add(t, "the longer one")
	for i := range safe + more {
		b.append(t, long(i), commit(i+1))
		if i == safe-1 {
			b.flush()
		}
	}
	b.cut(low)
	b.x, b.q = c.x, c.q
	what := fmt.Sprintf("%d sectors are safe, %d aren't, low %d, end %d", safe, more, low, end)
	if b.p.low != low || b.p.first != safe+1 || b.q.end != end {
		t.Fatalf("the test is wrong: %s: %d, %d, %d", what, b.p.low, b.p.first, b.q.end)
	}
	b.alike(t, what)
	f := api.OK
	if low > end {
		f = api.ErrState
	}
	n := 2 * max(0, safe+1-end)
	if f != api.OK {
		n = 0
	}
	wantAdd(t, what, b.x, b.l, n, f)
	b.q.add(b.p)
	b.alike(t, "behind Add: "+what)
	return f
}

func TestLowAtTheEnd(t *testing.T) {
	for low := 2; low < 5; low++ {
		b := newBoth(t)
		for i := range 2 {
			b.append(t, up(i, 0, fmt.Sprint(i)))
			b.flush()
		}
		wantAdd(t, "two sectors", b.x, b.l, 2, api.OK)
		for i := range 2 {
			b.append(t, up(2+i, 0, fmt.Sprint(i)))
			b.flush()
		}
		all := slices.Clone(b.p.list)
		b.cut(low)
		if low > 3 {
			wantAdd(t, "low above the end", b.x, b.l, 0, api.ErrState)
			wantWhole(t, "low above the end", b.x, b.l, nil, api.ErrState)
			for _, n := range wild() {
				wantPage(t, "low above the end", b.x, b.l, n, api.Page{}, api.ErrState)
			}
			wantTape(t, "low above the end", b.x, 3, all[:2])
			continue
		}
		wantWhole(t, "low at the end, or below", b.x, b.l, all, api.OK)
		for n := range 4 {
			wantPage(t, "low at the end, or below", b.x, b.l, n, with(128*(n+1), fmt.Sprint(n%2)), api.OK)
		}
		wantAdd(t, "low at the end, or below", b.x, b.l, 2, api.OK)
		wantTape(t, "low at the end, or below", b.x, 5, all)
	}
}

// A log that begins far behind has let go what the tape would need; one that has nothing, too.
func TestALogThatBeginsFarBehind(t *testing.T) {
	for _, low := range []int{2, 3, 64, 65, 128, 129, 256, 1 << 16, 1<<24 - 1, 1 << 24} {
		d, _ := disk.New(size)
		s, e := slab.Pack(api.Slab{Epoch: 1, Index: uint32(low), Body: "\x05"})
		if e != api.OK || d.Write(low%size, s) != api.OK || d.Sync() != api.OK {
			t.Fatalf("the slab %d isn't written", low)
		}
		l, e := wal.Open(d, 0, size, low)
		if e != api.OK || l.Next() != low+1 {
			t.Fatalf("Open(%d): %d", low, e)
		}
		x := tape.New()
		wantAdd(t, "far behind", x, l, 0, api.ErrState)
		wantWhole(t, "far behind", x, l, nil, api.ErrState)
		wantPage(t, "far behind", x, l, 0, api.Page{}, api.ErrState)
		wantTape(t, "far behind", x, 1, nil)
		l, e = wal.Open(d, 0, size, 1) // the same sectors, but from 1 on there is nothing
		if e != api.OK {
			t.Fatalf("Open(1): %d", e)
		}
		wantAdd(t, "nothing from 1 on", x, l, 0, api.OK)
		wantTape(t, "nothing from 1 on", x, 1, nil)
	}
}

// Behind a crash a log may have safe what it hadn't told to be: it goes to the tape now.
func TestALogThatIsOpenedAnew(t *testing.T) {
	for fate := range uint8(3) {
		b := newBoth(t)
		b.append(t, up(0, 0, "a"))
		b.flush()
		b.add(t, "ahead of the crash")
		b.append(t, up(0, 1, "bbbb"), long(1), up(0, 2, "c"))
		b.d.Arm(2) // two sectors are written, but no sync
		if e := b.flush(); e != api.ErrDead {
			t.Fatalf("Flush: %d", e)
		}
		wantAdd(t, "without power", b.x, b.l, 0, api.OK)
		wantTape(t, "without power", b.x, 2, b.p.list[:1])
		b.crash(t, 1, fate)
		n := 1
		if fate == 1 {
			n = 3
		}
		if len(b.p.list) != n+1 {
			t.Fatalf("the log has %d records", len(b.p.list))
		}
		b.alike(t, "behind the crash")
		wantAdd(t, "behind the crash", b.x, b.l, n, api.OK)
		wantTape(t, "behind the crash", b.x, 3+n/3, b.p.list)
		wantAdd(t, "behind the crash, again", b.x, b.l, 0, api.OK)
		b.append(t, up(0, 3, "d"))
		b.flush()
		wantAdd(t, "and on", b.x, b.l, 1, api.OK)
		wantTape(t, "and on", b.x, 4+n/3, b.p.list)
	}
}

// A log that lost sectors that the tape has goes on below the tape's end: the end stays, and what the tape has, too.
func TestALogWithFewerSectors(t *testing.T) {
	for lost := 1; lost < 5; lost++ {
		b := newBoth(t)
		for i := range 4 {
			b.append(t, up(0, i, "a"), commit(i+1))
			b.flush()
		}
		wantAdd(t, "four sectors", b.x, b.l, 8, api.OK)
		b.q.add(b.p)
		had := slices.Clone(b.p.list)
		if e := b.d.Lose(lost % size); e != api.OK {
			t.Fatalf("Lose: %d", e)
		}
		b.open(t, 1)
		if b.p.first != lost {
			t.Fatalf("the log goes on in sector %d, not %d", b.p.first, lost)
		}
		for i := lost; i < 5; i++ { // up to the tape's end nothing goes to it, nor is told behind it
			b.alike(t, "fewer sectors")
			wantAdd(t, "fewer sectors", b.x, b.l, 0, api.OK)
			wantTape(t, "fewer sectors", b.x, 5, had)
			wantWhole(t, "fewer sectors", b.x, b.l, had, api.OK)
			b.append(t, up(0, 9, "b"))
			b.alike(t, "fewer sectors, and one that isn't safe")
			wantAdd(t, "one that isn't safe", b.x, b.l, 0, api.OK)
			b.flush()
		}
		wantAdd(t, "as many sectors", b.x, b.l, 0, api.OK)
		wantTape(t, "as many sectors", b.x, 5, had)
		b.append(t, up(0, 9, "c"))
		wantPage(t, "as many sectors", b.x, b.l, 0, with(640, "aaaa\x00\x00\x00\x00\x00c"), api.OK)
		b.flush()
		wantAdd(t, "more sectors", b.x, b.l, 1, api.OK)
		wantTape(t, "more sectors", b.x, 6, slices.Concat(had, b.p.list[len(b.p.list)-1:]))
	}
}

// Whose log it is, a tape doesn't ask.
func TestAnotherLog(t *testing.T) {
	b, c := newBoth(t), newBoth(t)
	for i := range 4 {
		b.append(t, up(0, i, "b"))
		b.flush()
		c.append(t, up(0, i, "cc"), commit(1))
		c.flush()
		if i == 1 {
			wantAdd(t, "the first log", b.x, b.l, 2, api.OK)
		}
	}
	want := slices.Concat(b.p.list[:2], c.p.list[4:])
	wantWhole(t, "the other log", b.x, c.l, want, api.OK)
	wantPage(t, "the other log", b.x, c.l, 0, with(512, "bbccc"), api.OK)
	wantAdd(t, "the other log", b.x, c.l, 4, api.OK)
	wantTape(t, "the other log", b.x, 5, want)
	wantAdd(t, "the first log again", b.x, b.l, 0, api.OK)
	wantTape(t, "the first log again", b.x, 5, want)
}

func TestALogThatIsNone(t *testing.T) {
	for _, full := range []bool{false, true} {
		b := newBoth(t)
		if full {
			b.append(t, up(3, 0, "a"))
			b.flush()
			b.add(t, "full")
			b.append(t, up(3, 1, "b"))
		}
		for range 2 {
			wantAdd(t, "no log", b.x, nil, 0, api.ErrNil)
			wantWhole(t, "no log", b.x, nil, nil, api.ErrNil)
			for _, n := range wild() {
				wantPage(t, "no log", b.x, nil, n, api.Page{}, api.ErrNil)
			}
			b.alike(t, "no log")
		}
	}
	x, l := tape.New(), &wal.Log{} // one that nobody opened has nothing, and nothing safe
	wantAdd(t, "a log of noughts", x, l, 0, api.OK)
	wantWhole(t, "a log of noughts", x, l, nil, api.OK)
	wantPage(t, "a log of noughts", x, l, 0, with(0, ""), api.OK)
	wantTape(t, "a log of noughts", x, 1, nil)
}

// P15.2: List, Whole, Page, Copy, and a tape that is none.

func TestATapeThatIsNone(t *testing.T) {
	b := newBoth(t)
	b.append(t, up(0, 0, "a"), long(1))
	b.flush()
	b.append(t, up(0, 1, "b"))
	var x *tape.Tape
	for range 2 {
		wantAdd(t, "no tape", x, b.l, 0, api.ErrNil)
		wantAdd(t, "no tape, no log", x, nil, 0, api.ErrNil)
		wantWhole(t, "no tape", x, b.l, nil, api.ErrNil)
		wantWhole(t, "no tape, no log", x, nil, nil, api.ErrNil)
		for _, n := range wild() {
			wantPage(t, "no tape", x, b.l, n, api.Page{}, api.ErrNil)
			wantPage(t, "no tape, no log", x, nil, n, api.Page{}, api.ErrNil)
		}
		wantTape(t, "no tape", x, 0, nil)
		if c := x.Copy(); c != nil {
			t.Errorf("Copy of none: %v", c)
		}
		b.cut(2) // now any tape without records would be behind the log
	}
	b.alike(t, "the log is as it was")
}

func TestRecordsOfEachKind(t *testing.T) {
	b := newBoth(t)
	all := []api.Rec{
		{Kind: api.RUpdate, Txn: 1, Prev: 5, Page: 7, Off: 204, Before: strings.Repeat("\xff", 16), After: strings.Repeat("\x00", 16)},
		{Kind: api.RUndo, Txn: 1<<31 - 1, Prev: 400, Next: 128, Page: 5, Off: 9, After: "undone"},
		{Kind: api.RCommit, Txn: 1, Prev: 1<<31 - 1},
		{Kind: api.REnd, Txn: 7, Prev: 1000},
		{Kind: api.RBegin},
		{Kind: api.RTables, Begin: 128, Txns: []api.TxnRow{{Txn: 1, First: 2, Last: 3}, {Txn: 4, First: 5, Last: 6}}, Pages: []api.PageRow{{Page: 7, Rec: 8}}},
		{Kind: api.RTables},
		long(9),
	}
	for _, upto := range []int{0, 1, 4, len(all)} {
		for _, r := range all[:upto] {
			b.append(t, r)
		}
		b.alike(t, "of each kind")
		b.flush()
		b.alike(t, "of each kind, safe")
		wantAdd(t, "of each kind", b.x, b.l, upto, api.OK)
		b.q.add(b.p)
		b.alike(t, "of each kind, on the tape")
	}
	for i, x := range b.x.List() {
		want := slices.Concat(all[:1], all[:4], all)[i]
		if !sameEntries([]api.Entry{{R: x.R}}, []api.Entry{{R: want}}) {
			t.Errorf("record %d: %#v, not %#v", i, x.R, want)
		}
	}
}

// Whole has what the log has behind the tape's end, also if nothing of it is safe, or some, and never a record twice.
func TestWholeIsTheTapeAndTheLog(t *testing.T) {
	b := newBoth(t)
	for i := range 24 {
		b.append(t, up(i%3, i, fmt.Sprint(i)))
		switch i % 4 {
		case 1:
			b.flush()
		case 3:
			b.cut(b.q.end)
		}
		wantWhole(t, "beside the log", b.x, b.l, b.p.list, api.OK)
		b.alike(t, "beside the log")
		if i%6 == 5 {
			b.add(t, "by turns")
			wantWhole(t, "behind Add", b.x, b.l, b.p.list, api.OK)
		}
	}
	if b.p.low != 6 || b.q.end != 7 {
		t.Errorf("the test is wrong: low %d, end %d", b.p.low, b.q.end)
	}
}

// A page that no record names is noughts; so is one of a number that no page can have.
func TestPageOfAnyNumber(t *testing.T) {
	b := newBoth(t)
	b.append(t, up(0, 0, "a"), up(3, 0, "b"), commit(1), long(1))
	b.flush()
	b.add(t, "of any number")
	b.append(t, un(3, 1, "c"), up(7, 0, "d"))
	for _, n := range append(wild(), 3, 4, 6, 3+1<<8, 3+1<<32, -3, ^3) {
		want := with(0, "")
		switch n {
		case 0:
			want = with(128, "a")
		case 3:
			want = with(b.p.list[4].At, "bc")
		case 7:
			want = with(b.p.list[5].At, "d")
		}
		wantPage(t, "of any number", b.x, b.l, n, want, api.OK)
	}
}

// What a page is comes from the tape's records and the log's, the later ones above the earlier ones.
func TestPageFromBoth(t *testing.T) {
	b := newBoth(t)
	b.append(t, up(2, 0, "abc"), up(1, 0, "x"))
	b.flush()
	b.append(t, up(2, 1, "BC"))
	wantPage(t, "from the log alone", b.x, b.l, 2, with(256, "aBC"), api.OK)
	b.add(t, "the first sector")
	wantPage(t, "from both", b.x, b.l, 2, with(256, "aBC"), api.OK)
	b.cut(2)
	wantPage(t, "from both, the log cut", b.x, b.l, 2, with(256, "aBC"), api.OK)
	b.append(t, un(2, 2, "c"))
	at := b.p.list[3].At
	wantPage(t, "one more", b.x, b.l, 2, with(at, "aBc"), api.OK)
	b.crash(t)
	wantPage(t, "what wasn't safe is lost", b.x, b.l, 2, with(128, "abc"), api.OK)
	wantPage(t, "the other page", b.x, b.l, 1, with(146, "x"), api.OK)
}

func TestCopyGoesItsOwnWay(t *testing.T) {
	b := newBoth(t)
	none := b.x.Copy()
	wantTape(t, "a copy of an empty one", none, 1, nil)
	if none == b.x {
		t.Fatal("a copy is the tape itself")
	}
	for i := range 6 {
		b.append(t, up(0, i, "a"), long(i))
		b.flush()
		c, end, list := b.x.Copy(), b.q.end, slices.Clone(b.q.list)
		wantTape(t, "a copy", c, end, list)
		if i%2 == 0 { // the tape goes on, the copy stays; then the copy goes on
			b.add(t, "the tape")
			wantTape(t, "the copy", c, end, list)
			wantTape(t, "the tape", b.x, b.q.end, b.q.list)
			wantAdd(t, "the copy", c, b.l, len(b.q.list)-len(list), api.OK)
			wantTape(t, "the copy, too", c, b.q.end, b.q.list)
			b.alike(t, "the tape stays")
		} else { // the copy goes on, the tape stays, until it is done away with
			q := plainTape{end, list}
			q.add(b.p)
			wantAdd(t, "the copy first", c, b.l, len(q.list)-len(list), api.OK)
			wantTape(t, "the copy first", c, q.end, q.list)
			b.alike(t, "the tape stays as it is")
			b.x, b.q = c, q
		}
	}
	wantTape(t, "the copy of the empty one", none, 1, nil)
}

// Two copies of one tape that take different logs: neither writes where the other one has its records.
func TestCopiesDoNotShareTheirRoom(t *testing.T) {
	for n := range 20 {
		b, c := newBoth(t), newBoth(t)
		for i := range n {
			b.append(t, commit(i+1))
			c.append(t, commit(i+1))
		}
		b.flush()
		c.flush()
		b.add(t, "ahead")
		x := b.x.Copy()
		y := x.Copy()
		b.append(t, up(1, 0, "b"), up(1, 1, "b"))
		b.flush()
		c.append(t, up(2, 0, "c"), up(2, 1, "c"))
		c.flush()
		wantAdd(t, "one", x, b.l, 2, api.OK)
		wantAdd(t, "the other", y, c.l, 2, api.OK)
		wantAdd(t, "the tape", b.x, c.l, 2, api.OK)
		wantTape(t, "one", x, b.p.first, b.p.list)
		wantTape(t, "the other", y, c.p.first, c.p.list)
		wantTape(t, "the tape", b.x, c.p.first, c.p.list)
	}
}

// P15.3: whatever the log let go behind Add, Whole tells all records from the first one on.

func TestNothingIsLostByCuts(t *testing.T) {
	b := newBoth(t)
	d := dice(7)
	for i := range 600 {
		b.append(t, d.record())
		if i%5 == 0 {
			b.flush()
		}
		if i%7 == 0 {
			b.add(t, "goes on")
			b.cut(min(b.p.first, b.p.low+d.below(4), b.q.end))
		}
		if i%9 == 0 || b.l.Room() < 3 {
			b.flush()
			b.add(t, "goes on, and is cut as far as it goes")
			b.cut(b.p.first)
		}
		wantWhole(t, "from the first one on", b.x, b.l, b.p.list, api.OK)
	}
	if len(b.p.list) != 600 || b.p.low < 10*size {
		t.Fatalf("the log took %d records, and has those from %d on", len(b.p.list), b.p.low)
	}
	b.alike(t, "behind many rounds")
}

// With crashes, too: all that was ever safe, and what a crash left of the rest.
func TestNothingIsLostByCrashes(t *testing.T) {
	rounds, lost, saved := 0, 0, 0
	for seed := range 60 {
		b := newBoth(t)
		d := dice(seed)
		for b.p.low < 4*size {
			for range d.below(12) {
				b.append(t, d.record())
			}
			had, safe := slices.Clone(b.p.list), len(b.p.between(1, b.p.first))
			if d.below(3) == 0 {
				b.d.Arm(d.below(5))
				b.flush()
				b.crash(t, uint8(d.below(3)), uint8(d.below(3)))
				lost += len(had) - len(b.p.list)
				saved += len(b.p.list) - safe
			} else {
				b.flush()
			}
			if n := len(b.p.list); n < safe || !sameEntries(b.p.list, had[:n]) {
				t.Fatalf("the test is wrong: the log lost what was safe, or has something new")
			}
			wantWhole(t, "behind a crash, or none", b.x, b.l, b.p.list, api.OK)
			if d.below(2) == 0 || b.l.Room() < 5 {
				b.add(t, "and on")
				b.cut(b.p.first - 1)
			}
			wantWhole(t, "behind a cut, or none", b.x, b.l, b.p.list, api.OK)
			rounds++
		}
		b.alike(t, "behind crashes")
	}
	if rounds < 600 || lost < 200 || saved < 100 {
		t.Errorf("%d rounds, %d records lost, %d saved", rounds, lost, saved)
	}
}

// A page is the one that it would be if the log had never let anything go.
func TestPageBehindManyRounds(t *testing.T) {
	b := newBoth(t)
	var pages [8][220]byte
	var at [8]int
	d := dice(3)
	for range 500 {
		r := d.record()
		b.append(t, r)
		if r.Kind <= api.RUndo {
			copy(pages[r.Page][r.Off:], r.After)
			at[r.Page] = b.p.list[len(b.p.list)-1].At
		}
		if b.l.Room() < 2 || d.below(9) == 0 {
			b.flush()
			b.add(t, "round and round")
			b.cut(b.p.first)
		}
		n := d.below(8)
		wantPage(t, "round and round", b.x, b.l, n, api.Page{At: at[n], Data: string(pages[n][:])}, api.OK)
	}
}

// A ring of each size that a log may have.
func TestEachSizeOfALog(t *testing.T) {
	for _, n := range []int{8, 9, 16, 63, 64} {
		d, _ := disk.New(n + 3)
		l, e := wal.New(d, 3, n)
		if e != api.OK {
			t.Fatalf("New: %d", e)
		}
		x, want := tape.New(), []api.Entry(nil)
		for i := range 3*n - 1 { // each fills one sector
			at, e := l.Append(long(i))
			if e == api.ErrFull {
				if i%n != 0 {
					t.Fatalf("a log of %d is full behind %d", n, i)
				}
				wantAdd(t, "full", x, l, n-1, api.OK) // all but the open one
				if e := l.Flush(); e != api.OK {
					t.Fatalf("Flush: %d", e)
				}
				wantAdd(t, "full and safe", x, l, 1, api.OK)
				if e := l.Cut(i + 1); e != api.OK {
					t.Fatalf("Cut: %d", e)
				}
				at, e = l.Append(long(i))
			}
			if e != api.OK {
				t.Fatalf("Append: %d", e)
			}
			if i%n == n-2 {
				if e := l.Flush(); e != api.OK {
					t.Fatalf("Flush: %d", e)
				}
			}
			want = append(want, api.Entry{At: at, R: long(i)})
			wantWhole(t, "of each size", x, l, want, api.OK)
		}
		wantAdd(t, "of each size", x, l, n-1, api.OK)
		wantTape(t, "of each size", x, 3*n, want)
	}
}

// Rules that hold everywhere.

// A call that answers an error changes nothing.
func TestAnErrorChangesNothing(t *testing.T) {
	b := newBoth(t)
	b.append(t, up(0, 0, "a"))
	b.flush()
	b.add(t, "ahead")
	had := slices.Clone(b.p.list)
	b.append(t, up(0, 1, "b"))
	b.flush()
	old, oldPlain := b.l, b.p
	b.open(t, 1)
	b.append(t, up(0, 2, "c"))
	b.flush()
	b.cut(4)
	for range 3 {
		wantAdd(t, "low above the end", b.x, b.l, 0, api.ErrState)
		wantAdd(t, "no log", b.x, nil, 0, api.ErrNil)
		wantWhole(t, "low above the end", b.x, b.l, nil, api.ErrState)
		wantPage(t, "low above the end", b.x, b.l, 0, api.Page{}, api.ErrState)
		wantTape(t, "as it was", b.x, 2, had)
		b.alike(t, "as it was")
	}
	b.l, b.p = old, oldPlain
	b.add(t, "with the log that wasn't cut")
	b.alike(t, "with the log that wasn't cut")
}

// What is told may be written over: the tape, its copies and the log stay.
func TestWhatIsToldIsACopy(t *testing.T) {
	b := newBoth(t)
	b.append(t, up(0, 0, "a"), long(1), un(1, 0, "b"), commit(3))
	b.flush()
	b.add(t, "ahead")
	b.append(t, long(2), up(1, 1, "c"))
	c := b.x.Copy()
	spoil := func(list []api.Entry) {
		for i := range list {
			x := &list[i]
			clear(x.R.Txns[:cap(x.R.Txns)])
			clear(x.R.Pages[:cap(x.R.Pages)])
			x.At, x.R.Page, x.R.After, x.R.Kind = -1, 9, "spoilt", 9
		}
		list = append(list[:cap(list)], api.Entry{At: 5})
		clear(list)
	}
	for range 3 {
		spoil(b.x.List())
		b.alike(t, "behind List")
		list, _ := b.x.Whole(b.l)
		spoil(list)
		b.alike(t, "behind Whole")
		spoil(c.List())
		list, _ = c.Whole(b.l)
		spoil(list)
		b.alike(t, "behind those of the copy")
		wantTape(t, "the copy", c, b.q.end, b.q.list)
		spoil(b.l.Scan(0))
		b.alike(t, "behind the log's own")
	}
	// Also where answers have room behind them: what is appended to one doesn't come into another.
	one, two := b.x.List(), b.x.List()
	_ = append(one[:1], api.Entry{At: 77})
	wantTape(t, "behind an append", b.x, b.q.end, b.q.list)
	if !sameEntries(two, b.q.list) {
		t.Errorf("what was told ahead: %s", differ(two, b.q.list))
	}
	spoil(one)
	spoil(two)
	b.append(t, up(2, 0, "d"))
	b.flush()
	b.add(t, "and on")
	b.alike(t, "and on")
}

// No text and no list that is told lies where another answer, or the tape, has its own.
func TestAnswersAreNewMemory(t *testing.T) {
	b := newBoth(t)
	b.append(t, up(0, 0, "abc"), long(1), un(0, 0, "def"))
	b.flush()
	b.add(t, "ahead")
	b.append(t, up(0, 3, "ghi"), long(2))
	c := b.x.Copy()
	var all [][]api.Entry
	for range 2 {
		whole, _ := b.x.Whole(b.l)
		ofCopy, _ := c.Whole(b.l)
		all = append(all, b.x.List(), c.List(), whole, ofCopy, b.l.Scan(0))
	}
	for i, list := range all {
		for _, other := range all[:i] {
			for _, x := range list {
				for _, y := range other {
					if sharesText(x.R.Before, y.R.Before) || sharesText(x.R.After, y.R.After) || sharesText(x.R.After, y.R.Before) {
						t.Fatalf("answer %d shares a text with one ahead", i)
					}
					if shares(x.R.Txns, y.R.Txns) || shares(x.R.Pages, y.R.Pages) {
						t.Fatalf("answer %d shares rows with one ahead", i)
					}
				}
			}
			if shares(list, other) {
				t.Fatalf("answer %d shares its entries with one ahead", i)
			}
		}
	}
	p, _ := b.x.Page(b.l, 0)
	q, _ := b.x.Page(b.l, 0)
	if p != q || sharesText(p.Data, q.Data) {
		t.Error("two pages share their bytes")
	}
}

// shares tells whether two lists begin in the same memory.
func shares[E any](a, b []E) bool {
	return cap(a) > 0 && cap(b) > 0 && unsafe.SliceData(a) == unsafe.SliceData(b)
}

func sharesText(a, b string) bool {
	return a != "" && b != "" && unsafe.StringData(a) == unsafe.StringData(b)
}

// A tape is no part of the disk: no call touches it, and none needs the power.
func TestTheDiskIsNotTouched(t *testing.T) {
	b := newBoth(t)
	b.append(t, up(0, 0, "a"), long(1))
	b.flush()
	b.append(t, up(0, 1, "b"), long(2))
	sectors := func() (all []string) {
		for i := range size {
			s, e := b.d.Read(i)
			if e != api.OK {
				t.Fatalf("Read: %d", e)
			}
			all = append(all, s)
		}
		return all
	}
	had := sectors()
	b.d.Arm(0) // the first write or sync would end the power
	b.alike(t, "a fuse of 0")
	b.add(t, "a fuse of 0")
	b.alike(t, "a fuse of 0, behind Add")
	b.x.Copy()
	if b.d.Dead() || b.d.Waiting() != 0 || !slices.Equal(sectors(), had) {
		t.Fatal("the disk was touched")
	}
	x := tape.New()
	if e := b.flush(); e != api.ErrDead {
		t.Fatalf("Flush: %d", e)
	}
	b.alike(t, "without power")
	wantAdd(t, "without power", x, b.l, 2, api.OK)
	wantTape(t, "without power", x, b.q.end, b.q.list)
	b.d.Crash(nil)
	wantTape(t, "behind the crash", x, b.q.end, b.q.list)
	wantTape(t, "behind the crash", b.x, b.q.end, b.q.list)
}

// The log isn't kept: what becomes of it behind Add is nothing to the tape.
func TestTheLogIsNotKept(t *testing.T) {
	b := newBoth(t)
	b.append(t, up(0, 0, "a"), long(1))
	b.flush()
	b.add(t, "ahead")
	end, had := b.q.end, slices.Clone(b.q.list)
	b.append(t, long(3), up(0, 1, "b"))
	wantTape(t, "behind appends", b.x, end, had)
	b.flush()
	wantTape(t, "behind a flush", b.x, end, had)
	b.cut(b.p.first)
	wantTape(t, "behind a cut", b.x, end, had)
	for i := range size {
		b.d.Lose(i)
	}
	wantTape(t, "behind a loss of all sectors", b.x, end, had)
}

// The same calls again are answered the same, by another tape of the same log too.
func TestTheSameIsAnsweredEachTime(t *testing.T) {
	b := newBoth(t)
	d := dice(11)
	for range 40 {
		b.append(t, d.record())
		if d.below(6) == 0 {
			b.flush()
		}
	}
	other := tape.New()
	n := b.add(t, "one")
	wantAdd(t, "another", other, b.l, n, api.OK)
	for range 5 {
		wantTape(t, "one", b.x, b.q.end, b.q.list)
		wantTape(t, "another", other, b.q.end, b.q.list)
		b.alike(t, "one")
		for n := range 8 {
			wantPage(t, "another", other, b.l, n, b.alikePage(t, "one", n), api.OK)
		}
	}
}
