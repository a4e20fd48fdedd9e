package engine_test

import (
	"fmt"
	"slices"
	"testing"

	"careen/api"
)

// P16.4: crashes, at each write of an operation, and of the restarts behind it.

// scene is what was done, and an operation that a crash comes with.
type scene struct {
	name  string
	c     api.Config
	ahead []api.Op
	o     api.Op
}

// busy is a few commits, of which the last one is pending, and two transactions that aren't over, one with savepoints; each page that doesn't fit into the frames was written.
func busy() []api.Op {
	return []api.Op{
		begin(1), write(1, 0, 0, "one"), write(1, 1, 0, "ONE"), commit(1), flush(),
		begin(2), write(2, 2, 3, "two"), begin(3), write(3, 0, 0, "three"), mark(3), write(3, 1, 1, "3333"), write(3, 0, 2, "-"),
		commit(2), begin(4), write(4, 2, 0, "four"), write(4, 2, 2, "FOUR"),
	}
}

// far is so much that the log could let go its first sectors, but for the tape.
func far() []api.Op {
	var list []api.Op
	for i := range 6 {
		list = append(list, begin(1), write(1, i%3, i, "far"), commit(1), flush())
	}
	return append(list, evict(0), check(), check(), check(), check())
}

// deep is a transaction that changed each page several times.
func deep() []api.Op {
	list := []api.Op{begin(1), mark(1)}
	for i := range 6 {
		list = append(list, write(1, i%3, i, fmt.Sprint("deep", i)))
	}
	return list
}

func scenes() []scene {
	small := api.Config{Pages: 3, Frames: 1, Log: 12}
	wide := api.Config{Pages: 3, Frames: 2, Log: 16}
	all := []scene{
		{"a begin", wide, busy(), begin(1)},
		{"a read that fetches", small, busy(), read(3, 1, 0, 5)},
		{"a write that fetches", small, busy(), write(3, 1, 9, "x")},
		{"an add that fetches", small, busy(), add(3, 1, 8, 1.5)},
		{"a mark", wide, busy(), mark(4)},
		{"a way back over some pages", small, busy(), back(3, 0)},
		{"a way back over all", small, deep(), back(1, 0)},
		{"a commit", wide, busy(), commit(4)},
		{"an abort over some pages", small, busy(), abort(3)},
		{"an abort over all", small, deep(), abort(1)},
		{"an abort with more frames", wide, deep(), abort(1)},
		{"a flush", wide, busy(), flush()},
		{"a flush of several sectors", wide, slices.Concat(busy(), deep()[2:], []api.Op{begin(1)}, deep()[1:]), flush()},
		{"an eviction that flushes", small, busy(), evict(0)},
		{"an eviction of what is safe", small, slices.Concat(busy(), []api.Op{flush()}), evict(0)},
		{"an archive", wide, busy(), archive()},
		{"a trim without a checkpoint", wide, busy(), trim()},
		{"a trim", wide, slices.Concat(far(), busy(), []api.Op{flush(), archive()}), trim()},
		{"a trim that flushes", small, slices.Concat(far(), []api.Op{archive(), begin(5), write(5, 0, 0, "x")}), trim()},
		{"a trim that the tape refuses", wide, slices.Concat(far(), busy()), trim()},
		{"no kind", wide, busy(), api.Op{Kind: 99}},
		{"a refusal", small, busy(), write(1, 0, 0, "x")},
	}
	for i := range 4 {
		steps := slices.Repeat([]api.Op{check()}, i)
		all = append(all, scene{fmt.Sprint("a checkpoint's step ", i), small, slices.Concat(busy(), steps), check()})
		all = append(all, scene{fmt.Sprint("a second checkpoint's step ", i), wide, slices.Concat(busy(), slices.Repeat(steps, 1), slices.Repeat([]api.Op{check()}, 4), deepOf(4)), check()})
	}
	return all
}

// deepOf is some more changes of a transaction that is there.
func deepOf(txn int) []api.Op {
	return []api.Op{write(txn, 2, 100, "more"), write(txn, 2, 102, "and more")}
}

// behind is what is done when the power is there again: each sector that a crash left, and each number, comes into play.
func behind() []api.Op {
	return []api.Op{
		begin(1), write(1, 0, 100, "again"), write(1, 2, 100, "and again"), commit(1), begin(2), write(2, 1, 100, "no"), flush(),
		check(), evict(0), check(), crash(3, 1, 0), check(), begin(7), write(7, 0, 50, "seven"), commit(7), flush(), archive(), zero(0),
	}
}

// set plays what is ahead, and looks at nothing: it is done again and again.
func (s scene) set(t *testing.T) *trio {
	t.Helper()
	x := newTrio(t, s.c)
	for _, o := range s.ahead {
		x.told = append(x.told, o)
		a := x.g.Do(o)
		if want := x.p.do(o); !sameAnswer(a, want) {
			t.Fatalf("%s: %s: %s, not %s", s.name, x.last(), toldAnswer(a), toldAnswer(want))
		}
		if d := x.hear(o, a); d != "" {
			t.Fatalf("%s: %s: %s", s.name, x.last(), d)
		}
	}
	return x
}

// writes answers how many writes and syncs an operation bears, the restarts behind it too.
func (s scene) writes(t *testing.T, crashes ...api.Op) int {
	t.Helper()
	p := newPlain(s.c)
	for _, o := range slices.Concat(s.ahead, crashes) {
		p.do(o)
	}
	n := p.d.borne
	p.do(s.o)
	return p.d.borne - n
}

// with does the operation with crashes; what comes behind it, if the rest is to be done, too.
func (s scene) with(t *testing.T, rest bool, crashes ...api.Op) api.Answer {
	t.Helper()
	x := s.set(t)
	a := x.do(t, append(crashes, s.o)...)
	if !a.Down {
		t.Fatalf("%s with %v: it isn't Down", s.name, crashes)
	}
	if n := len(x.g.Pending()) + len(x.g.Live()) + x.g.Need(); n != 0 {
		t.Fatalf("%s with %v: %v are pending, %v live, Need %d", s.name, crashes, x.g.Pending(), x.g.Live(), x.g.Need())
	}
	if rest {
		x.do(t, behind()...)
	}
	return a
}

// fates is what becomes of the writes that wait.
func fates() [][]uint8 {
	return [][]uint8{nil, {1}, {2}, {1, 0}, {0, 1}, {1, 2}, {2, 1, 1}, {1, 1, 0}, {4, 1, 5, 3}}
}

func TestACrashAtEachWrite(t *testing.T) {
	met := map[string]int{}
	for _, s := range scenes() {
		w := s.writes(t)
		for f := -1; f <= w+1; f++ {
			for _, picks := range fates() {
				a := s.with(t, true, crash(f, picks...))
				if dead := max(f, 0) < w; dead != (a.Err == api.ErrDead) || dead && len(a.Data)+len(a.Acked) > 0 {
					t.Fatalf("%s with a fuse of %d, %d writes: %s", s.name, f, w, toldAnswer(a))
				}
				met[fmt.Sprint("error ", a.Err)]++
			}
		}
		met["writes"] += w
	}
	wantMet(t, met, 10, "error 0", "error 4", "error 1", "error 7", "error 11", "writes")
}

func TestACrashAtEachWriteOfARestart(t *testing.T) {
	for _, s := range scenes() {
		t.Run(s.name, func(t *testing.T) {
			t.Parallel()
			w, deepest := s.writes(t), 0
			for f := range w + 1 {
				for _, picks := range [][]uint8{nil, {1}, {2, 1}} {
					first := crash(f, picks...)
					again := s.writes(t, first) - min(f, w)
					for k := range again {
						for _, more := range [][]uint8{{1}, {2, 0}} {
							s.with(t, k%7 == f%7, first, crash(k, more...))
						}
					}
					deepest = max(deepest, again)
				}
			}
			if deepest < 5 {
				t.Errorf("a restart takes %d writes only", deepest)
			}
		})
	}
}

// The power goes again and again: up to eight times, each time at one write of a restart.
func TestEightCrashes(t *testing.T) {
	for _, s := range scenes() {
		t.Run(s.name, func(t *testing.T) {
			t.Parallel()
			w := s.writes(t)
			for n := 4; n <= 8; n += 2 {
				for k := range 14 {
					for _, picks := range [][]uint8{nil, {1}, {0, 1, 2}} {
						list := []api.Op{crash(max(w-1, 0), 1)}
						for i := range n - 1 {
							list = append(list, crash((k+i*(n%3))%14, picks...))
						}
						s.with(t, n == 8, list...)
					}
				}
			}
		})
	}
}

// Each change is undone once, however often the power goes amid that: no record is written twice.
func TestWhatIsUndoneAmidCrashesIsUndoneOnce(t *testing.T) {
	for k := range 30 {
		for _, picks := range [][]uint8{nil, {1}, {2}, {1, 0}} {
			x := scene{"", api.Config{Pages: 3, Frames: 1, Log: 40}, append(deep(), flush()), flush()}.set(t)
			for range 7 {
				x.do(t, crash(k, picks...))
			}
			x.do(t, crash(k, 1), begin(2))
			n := kinds(x.g.Log())
			if n[api.RUpdate] != 6 || n[api.RUndo] != 6 || n[api.REnd] != 1 {
				t.Fatalf("a fuse of %d, %v: the kinds %v", k, picks, n)
			}
			undone := map[int]int{}
			for _, y := range x.g.Log() {
				if y.R.Kind == api.RUndo {
					undone[y.R.Next]++
				}
			}
			if len(undone) != 6 {
				t.Fatalf("a fuse of %d, %v: undone %v", k, picks, undone)
			}
		}
	}
}

// A crash that waits comes with the next operation of each kind, also with one that is refused, but OCrash and OZero.
func TestWhichOperationACrashComesWith(t *testing.T) {
	for kind := -1; kind < 18; kind++ {
		x := newTrio(t, api.Config{Pages: 2, Frames: 2, Log: 10})
		x.do(t, begin(1), write(1, 0, 0, "a"), crash(0))
		a := x.do(t, api.Op{Kind: kind, Txn: 1, N: 1, Data: "b"})
		without := kind == api.OCrash || kind == api.OZero
		if a.Down == without {
			t.Fatalf("kind %d: %s", kind, toldAnswer(a))
		}
		if a = x.do(t, read(1, 0, 0, 1)); a.Down != without {
			t.Fatalf("behind kind %d: %s", kind, toldAnswer(a))
		}
		if a = x.do(t, flush()); a.Down {
			t.Fatalf("none waits behind kind %d: %s", kind, toldAnswer(a))
		}
	}
}

// An operation that the power doesn't go amid answers as ever, and tells whose commits are safe.
func TestDownBehindTheOperation(t *testing.T) {
	ahead := []api.Op{begin(1), write(1, 0, 0, "abc"), commit(1), begin(2), write(2, 1, 0, "q")}
	x := newTrio(t, api.Config{Pages: 2, Frames: 2, Log: 10})
	a := x.do(t, append(ahead, crash(2), flush())...)
	if !sameAnswer(a, api.Answer{Acked: []int{1}, Down: true}) || x.g.Pages()[0][:3] != "abc" || x.g.Pages()[1][:1] != "\x00" {
		t.Errorf("a flush that is borne: %s", toldAnswer(a))
	}
	x = newTrio(t, api.Config{Pages: 2, Frames: 2, Log: 10})
	a = x.do(t, append(ahead, crash(0), read(2, 0, 0, 3))...)
	if !sameAnswer(a, api.Answer{Data: "abc", Down: true}) || short(x.g.Pages()[0]) != "" {
		t.Errorf("a read that writes nothing: %s", toldAnswer(a))
	}
	x = newTrio(t, api.Config{Pages: 2, Frames: 2, Log: 10})
	a = x.do(t, append(ahead, crash(1, 1), flush())...)
	if !sameAnswer(a, api.Answer{Err: api.ErrDead, Down: true}) || x.g.Pages()[0][:3] != "abc" {
		t.Errorf("a flush whose sync isn't borne, but whose write is safe: %s", toldAnswer(a))
	}
}

// What waits is kept as it was when it came, and in its order.
func TestPicksAreNotKept(t *testing.T) {
	ahead := []api.Op{begin(1), write(1, 0, 0, "abc"), commit(1)}
	for first := range uint8(3) {
		g := made(t, api.Config{Pages: 1, Frames: 1, Log: 8})
		for _, o := range ahead {
			g.Do(o)
		}
		picks := []uint8{first, 9, 9}[:1]
		o := crash(1, picks...)
		o.Picks = picks
		g.Do(o)
		if !slices.Equal(picks[:3], []uint8{first, 9, 9}) {
			t.Fatalf("the picks are %v", picks[:3])
		}
		picks[0] = (first + 1) % 3
		g.Do(flush())
		if there := g.Pages()[0][:3] == "abc"; there != (first == 1) {
			t.Errorf("the picks were %d: %q", first, short(g.Pages()[0]))
		}
	}
}

func TestHowManyCrashesWait(t *testing.T) {
	x := newTrio(t, api.Config{Pages: 1, Frames: 1, Log: 8})
	x.do(t, begin(1), write(1, 0, 0, "a"), commit(1))
	for range 3 {
		for i := range 8 {
			if a := x.do(t, crash(1, uint8(i))); !sameAnswer(a, api.Answer{}) {
				t.Fatalf("the crash %d: %s", i, toldAnswer(a))
			}
		}
		for _, n := range wild() {
			if a := x.do(t, crash(n, 1)); !sameAnswer(a, api.Answer{Err: api.ErrFull}) {
				t.Fatalf("a ninth one: %s", toldAnswer(a))
			}
		}
		if a := x.do(t, zero(0)); a.Down || a.Err != api.OK {
			t.Fatalf("OZero with eight crashes waiting: %s", toldAnswer(a))
		}
		if a := x.do(t, zero(1)); a.Down || a.Err != api.ErrRange {
			t.Fatalf("OZero of no page with eight crashes waiting: %s", toldAnswer(a))
		}
		if a := x.do(t, crash(0)); a.Err != api.ErrFull {
			t.Fatalf("behind OZero they wait: %s", toldAnswer(a))
		}
		if a := x.do(t, evict(0)); !a.Down {
			t.Fatalf("eight crashes: %s", toldAnswer(a))
		}
	}
	for _, n := range wild() {
		x.do(t, begin(1), write(1, 0, 0, "a"), write(1, 0, 1, "b"), crash(n, 1, 0))
		if a := x.do(t, flush()); !a.Down || (a.Err == api.ErrDead) != (n < 2) {
			t.Fatalf("a fuse of %d: %s", n, toldAnswer(a))
		}
		x.do(t, check(), check(), check(), check(), archive(), trim())
	}
}
