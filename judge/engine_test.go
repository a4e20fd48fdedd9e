package judge_test

import (
	"fmt"
	"maps"
	"slices"
	"strings"
	"testing"

	"careen/api"
	"careen/engine"
	"careen/judge"
)

// P17.4: the logs of engines.

// tale is an engine, and the records that went to its tape.
type tale struct {
	c     api.Config
	g     *engine.Engine
	tape  []api.Entry
	acked []int // whose commits were acknowledged, in order
	told  []api.Op
	met   map[string]int
}

func newTale(t *testing.T, c api.Config, met map[string]int) *tale {
	t.Helper()
	g, e := engine.New(c)
	if e != api.OK {
		t.Fatalf("New(%v): %d", c, e)
	}
	return &tale{c: c, g: g, met: met}
}

// do does operations; what goes to the tape is in the log still.
func (x *tale) do(list ...api.Op) (a api.Answer) {
	for _, o := range list {
		from := x.g.Upto()
		a = x.g.Do(o)
		x.told = append(x.told, o)
		x.acked = append(x.acked, a.Acked...)
		if x.g.Upto() > from {
			x.tape = append(x.tape, within(x.g.Log(), from, x.g.Upto())...)
		}
		if a.Down {
			x.met["down"]++
		}
		if a.Err == api.ErrDead {
			x.met["dead"]++
		}
		if o.Kind == api.OZero && a.Err == api.OK {
			x.met["put together"]++
		}
	}
	return a
}

// within is the records of the sectors from one up to, not with, another one.
func within(log []api.Entry, from, upto int) (list []api.Entry) {
	for _, x := range log {
		if x.At >= from*128 && x.At < upto*128 {
			list = append(list, x)
		}
	}
	return list
}

// whole is all records that there ever were, those of the tape ahead of those of the log.
func (x *tale) whole() []api.Entry {
	return slices.Concat(x.tape, within(x.g.Log(), x.g.Upto(), 1<<40))
}

// judged holds what the judge says of the log against the engine.
func (x *tale) judged(t *testing.T) {
	t.Helper()
	list := x.whole()
	if f := judge.Faults(list); len(f) != 0 {
		t.Fatalf("%s: faults at %v of%s", x.last(), places(f), shown(list))
	}
	open := judge.Open(list)
	for _, row := range open {
		if !slices.Contains(x.g.Live(), row.Txn) {
			t.Fatalf("%s: %d is open, but not live, of%s", x.last(), row.Txn, shown(list))
		}
	}
	if !follows(judge.Commits(list), x.acked) {
		t.Fatalf("%s: Commits %v, acknowledged %v", x.last(), judge.Commits(list), x.acked)
	}
	x.samePages(t, list)
	for _, y := range list {
		x.met[fmt.Sprint("kind ", y.R.Kind)]++
	}
	if x.g.Low() > 1 {
		x.met["without the first sectors"]++
	}
}

// samePages holds the judge's pages against the engine's: all of them, when nobody is open, else those that nobody who is open changed.
func (x *tale) samePages(t *testing.T, list []api.Entry) {
	t.Helper()
	touched := map[int]bool{}
	open := judge.Open(list)
	for _, row := range open {
		for _, y := range own(list, row.Txn) {
			touched[y.R.Page] = true
		}
	}
	want, got := x.g.Pages(), judge.Pages(list, x.c.Pages)
	if len(got) != len(want) {
		t.Fatalf("%s: %d pages, not %d", x.last(), len(got), len(want))
	}
	for i := range want {
		if !touched[i] && got[i] != want[i] {
			t.Fatalf("%s: the page %d: %q, not %q, of%s", x.last(), i, got[i], want[i], shown(list))
		}
		if got[i] != filled("") && len(open) == 0 {
			x.met["pages with something, nobody open"]++
		}
	}
	if len(open) > 1 {
		x.met["several open"]++
	}
}

// last tells the last operations.
func (x *tale) last() string {
	n := max(0, len(x.told)-8)
	return fmt.Sprintf("config %v, behind %d operations: %v", x.c, n, x.told[n:])
}

// follows tells whether numbers are there in their order, be others between.
func follows(all, some []int) bool {
	for _, n := range all {
		if len(some) > 0 && some[0] == n {
			some = some[1:]
		}
	}
	return len(some) == 0
}

// op is an operation of one of a few transactions; most may be.
func (d *dice) op(c api.Config) api.Op {
	o := api.Op{Txn: 1 + d.below(3), Page: d.below(c.Pages)}
	shares := [...]int{0, 15, 2, 35, 6, 5, 6, 8, 5, 4, 6, 2, 1, 1, 1, 3} // of a hundred, by Kind
	for k := d.below(100); k >= 0; k -= shares[o.Kind] {
		o.Kind++
	}
	switch o.Kind {
	case api.ORead:
		o.N = 1 + d.below(16)
	case api.OWrite:
		o.Data = d.text(1 + d.below(16))
		o.Off = d.one(0, 1, 3, 220-len(o.Data))
	case api.OAdd:
		o.Off, o.F = d.one(0, 8, 212), float64(d.below(9))
	case api.OBack:
		o.N = d.below(3)
	case api.OEvict:
		o.N = d.below(c.Frames)
	case api.OCrash:
		o.N = d.one(0, 1, 2, d.below(12))
		for range d.below(4) {
			o.Picks = append(o.Picks, uint8(d.below(3)))
		}
	}
	return o
}

func TestLogsOfEngines(t *testing.T) {
	met := map[string]int{}
	for seed := range 300 {
		d := dice(seed)
		c := api.Config{Pages: 1 + d.below(4), Frames: 1 + d.below(3), Log: 8 + d.below(30)}
		x := newTale(t, c, met)
		for i := range 150 {
			o := d.op(c)
			a := x.do(o)
			if o.Kind == api.OCrash && d.below(2) == 0 { // amid something that writes
				a = x.do(flush())
			}
			if d.below(12) == 0 { // the log gets room again
				a = x.do(check(), check(), check(), check(), api.Op{Kind: api.OArchive}, api.Op{Kind: api.OTrim})
			}
			if a.Down || i%10 == 9 {
				x.judged(t)
			}
		}
		for _, txn := range x.g.Live() {
			x.do(api.Op{Kind: api.OAbort, Txn: txn})
		}
		x.judged(t)
		x.do(flush())
		x.judged(t)
	}
	for _, s := range []string{"down", "dead", "put together", "kind 1", "kind 2", "kind 3", "kind 4", "kind 5", "kind 6", "without the first sectors", "pages with something, nobody open", "several open"} {
		if met[s] < 100 {
			t.Errorf("%q was met %d times only", s, met[s])
		}
	}
}

func check() api.Op { return api.Op{Kind: api.OCheck} }
func flush() api.Op { return api.Op{Kind: api.OFlush} }

func write(txn, page, off int, s string) api.Op {
	return api.Op{Kind: api.OWrite, Txn: txn, Page: page, Off: off, Data: s}
}

// busy is commits, and transactions that aren't over, one of them half undone; pages are evicted all the while.
func busy() []api.Op {
	begin := func(txn int) api.Op { return api.Op{Kind: api.OBegin, Txn: txn} }
	return []api.Op{
		begin(1), write(1, 0, 0, "one"), write(1, 1, 0, "ONE"), {Kind: api.OCommit, Txn: 1}, flush(), check(),
		begin(2), write(2, 2, 3, "two"), begin(3), write(3, 0, 0, "three"), {Kind: api.OMark, Txn: 3}, write(3, 1, 1, "3333"), write(3, 0, 2, "-"), check(),
		{Kind: api.OCommit, Txn: 2}, begin(4), write(4, 2, 0, "four"), {Kind: api.OBack, Txn: 3, N: 0}, write(4, 2, 2, "FOUR"), write(3, 1, 2, "again"), {Kind: api.OEvict, N: 0}, check(),
	}
}

// The power goes at each write of an operation, and of each of the restarts behind it.
func TestLogsBehindCrashesInRestart(t *testing.T) {
	met := map[string]int{}
	for _, o := range []api.Op{flush(), check(), {Kind: api.OEvict, N: 0}, {Kind: api.OAbort, Txn: 3}, write(4, 2, 9, "x")} {
		for fuse := range 12 {
			for _, picks := range [][]uint8{nil, {1}, {2}, {1, 0}, {0, 1, 2}} {
				for deep := range 8 {
					x := newTale(t, api.Config{Pages: 3, Frames: 1, Log: 30}, met)
					x.do(busy()...)
					x.judged(t)
					for i := range 1 + deep {
						x.do(api.Op{Kind: api.OCrash, N: (fuse + 5*i) % 12, Picks: picks})
					}
					if a := x.do(o); !a.Down {
						t.Fatalf("%s: it isn't Down", x.last())
					}
					if len(judge.Open(x.whole())) != 0 {
						t.Fatalf("%s: somebody is open behind a restart", x.last())
					}
					x.judged(t)
					x.do(busy()...)
					x.judged(t)
				}
			}
		}
	}
	for _, s := range []string{"dead", "kind 2", "kind 4", "pages with something, nobody open", "several open"} {
		if met[s] < 100 {
			t.Errorf("%q was met %d times only", s, met[s])
		}
	}
}

// An engine's log of which one record is bent, or gone, has faults: a judge who never finds one would hold all of the above.
func TestLogsOfEnginesBent(t *testing.T) {
	x := newTale(t, api.Config{Pages: 3, Frames: 1, Log: 30}, map[string]int{})
	x.do(busy()...)
	x.do(api.Op{Kind: api.OCrash, N: 5, Picks: []uint8{1}}, flush())
	x.do(busy()...)
	list := x.whole()
	x.judged(t)
	bends := map[string]func(y *api.Entry){
		"At":     func(y *api.Entry) { y.At = 1 },
		"Kind":   func(y *api.Entry) { y.R.Kind += 6 },
		"Txn":    func(y *api.Entry) { y.R.Txn = 9 },
		"Page":   func(y *api.Entry) { y.R.Page += 8 },
		"Prev":   func(y *api.Entry) { y.R.Prev++ },
		"Next":   func(y *api.Entry) { y.R.Next++ },
		"Begin":  func(y *api.Entry) { y.R.Begin++ },
		"Before": func(y *api.Entry) { y.R.Before += "?" },
		"After":  func(y *api.Entry) { y.R.After += "?" },
	}
	// Which bends of a kind are faults of the record itself.
	faults := map[int]string{
		api.RUpdate: "At Kind Page Prev Before", api.RUndo: "At Kind Page Prev Next After Txn",
		api.RCommit: "At Kind Prev Txn", api.REnd: "At Kind Prev Txn", api.RBegin: "At Kind", api.RTables: "At Kind Begin",
	}
	for i, y := range list {
		for _, what := range slices.Sorted(maps.Keys(bends)) {
			c := bent(list, i, bends[what])
			alike(t, c)
			if i > 0 && slices.Contains(strings.Fields(faults[y.R.Kind]), what) && !slices.Contains(places(judge.Faults(c)), c[i].At) {
				t.Errorf("another %s at %d: no fault of%s", what, y.At, shown(c[:i+1]))
			}
		}
		alike(t, slices.Delete(copied(list), i, i+1))
	}
}
