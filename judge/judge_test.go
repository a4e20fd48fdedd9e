package judge_test

import (
	"fmt"
	"slices"
	"testing"

	"careen/api"
	"careen/judge"
)

// The chapter's example.

func TestExample(t *testing.T) {
	list := []api.Entry{up(128, 1, 0, 0, 0, "\x00", "a"), commit(160, 1, 0)}
	wantFaults(t, "Prev 0", list, 160)
	list[1].R.Prev = 128
	wantFaults(t, "Prev 128", list)
	wantCommits(t, "Prev 128", list, 1)
	wantOpen(t, "Prev 128", list)
	wantPages(t, "Prev 128", list, "a")
}

// sample is a log that keeps all rules: two transactions beside each other, one of which undoes some of it, the other one all, a checkpoint, and a number that begins anew.
func sample() []api.Entry {
	return []api.Entry{
		up(128, 1, 0, 0, 0, "\x00", "a"),
		up(140, 2, 0, 1, 0, "\x00\x00", "bc"),
		begin(150),
		up(160, 1, 128, 0, 1, "\x00", "d"),
		tabs(170, 150),
		un(180, 1, 160, 128, 0, 1, "\x00"),
		commit(190, 1, 180),
		un(200, 2, 140, 0, 1, 0, "\x00\x00"),
		end(210, 2, 200),
		up(220, 1, 0, 0, 0, "a", "e"),
		commit(230, 1, 220),
	}
}

func TestSample(t *testing.T) {
	list := sample()
	open := [][]int{nil, {1, 128, 128}, {1, 128, 128, 2, 140, 140}, {1, 128, 128, 2, 140, 140}, {1, 128, 160, 2, 140, 140}, {1, 128, 160, 2, 140, 140}, {1, 128, 180, 2, 140, 140}, {2, 140, 140}, {2, 140, 200}, nil, {1, 220, 220}, nil}
	for n := range len(list) + 1 {
		wantFaults(t, "a beginning", list[:n])
		wantOpen(t, "a beginning", list[:n], open[n]...)
	}
	wantCommits(t, "the sample", list, 1, 1)
	wantCommits(t, "up to the first", list[:7], 1)
	wantPages(t, "the sample", list, "e", "")
	wantPages(t, "ahead of the last one", list[:10], "a", "")
	wantPages(t, "ahead of the first one", list[:6], "", "")
}

// All promises, over many lists.

// step is one record more of a log: a right one or a wrong one.
type step func(w *writer)

// steps is most of what a record may be: the first ones keep the rules, or may.
func steps() []step {
	last := func(w *writer, kind int) int {
		for _, x := range slices.Backward(w.list) {
			if x.R.Kind == kind {
				return x.At
			}
		}
		return 0
	}
	raw := func(w *writer, x api.Entry) { w.list = append(w.list, x) }
	return []step{
		func(w *writer) { w.up(1, 0, 0, "a") },
		func(w *writer) { w.up(2, 0, 0, "bb") },
		func(w *writer) {
			if !w.undo(1) {
				w.add(api.Rec{Kind: api.RUndo, Txn: 1, After: "\x00"})
			}
		},
		func(w *writer) { w.commit(1) },
		func(w *writer) { w.add(api.Rec{Kind: api.REnd, Txn: 1}) },
		func(w *writer) { raw(w, up(w.next(), 1, 0, 0, 0, "\x00", "c")) },
		func(w *writer) { w.add(api.Rec{Kind: api.RUndo, Txn: 2, After: "\x00\x00"}) },
		func(w *writer) { raw(w, commit(w.next(), 2, w.next()-10)) },
		func(w *writer) { w.begin() },
		func(w *writer) { w.tables(last(w, api.RBegin)) },
		func(w *writer) { raw(w, up(w.next()-15, 1, w.next()-10, 1, 219, "\x00", "d")) },
		func(w *writer) { raw(w, api.Entry{At: w.next(), R: api.Rec{Kind: 7, Txn: 1, After: "x"}}) },
		func(w *writer) { raw(w, up(w.next()-10, 2, 0, 7, 220, "", "")) },
		func(w *writer) { raw(w, begin(w.next()-20)) },
	}
}

// histories calls f with each log of n of the first k steps.
func histories(n, k int, f func(list []api.Entry)) {
	var lay func(list []api.Entry, n int)
	lay = func(list []api.Entry, n int) {
		if n == 0 {
			f(list)
			return
		}
		for _, s := range steps()[:k] {
			w := &writer{list: slices.Clip(list)}
			s(w)
			lay(w.list, n-1)
		}
	}
	lay(nil, n)
}

func TestEachShortHistory(t *testing.T) {
	for n := range 5 {
		histories(n, 14, func(list []api.Entry) { alike(t, list) })
	}
}

func TestEachLongerHistory(t *testing.T) {
	histories(6, 6, func(list []api.Entry) { alike(t, list) })
}

// thrownLog is a log that keeps all rules, as the dice fall; a number is used again and again, also by those that are open at one time with others.
func thrownLog(d *dice, n int) []api.Entry {
	w := &writer{step: 9 + d.below(30)}
	var begun []int
	for len(w.list) < n {
		txn := d.one(1, 2, 3, 4, 1<<31-1)
		switch k := d.below(20); {
		case k < 10:
			size := d.one(1, 2, 16)
			w.up(txn, d.one(0, 1, 7), d.one(0, 1, 5, 220-size), d.text(size))
		case k < 14:
			w.undo(txn)
		case k < 16:
			w.commit(txn)
		case k < 17:
			w.abort(txn)
		case k < 18:
			begun = append(begun, w.begin())
		case len(begun) > 0:
			w.tables(d.one(begun...))
		}
	}
	return w.list
}

func TestThrownLogsKeepTheRules(t *testing.T) {
	for seed := range 400 {
		d := dice(seed)
		wantFaults(t, "a log that keeps the rules", thrownLog(&d, 1+seed%60))
	}
}

// bend is another number, or another text, in a record.
func (d *dice) bend(x *api.Entry) {
	n := d.one(-1, 0, 1, 2, 7, 8, 128, 147, 219, 220, 221, 1<<31)
	if d.below(2) == 0 {
		n = x.At - 30 + d.below(60)
	}
	switch d.below(12) {
	case 0:
		x.At += d.one(-200, -40, -9, -1, 1, 9, 40)
	case 1:
		x.R.Kind = d.one(1, 2, 3, 4, 5, 6, 7, 0, -1)
	case 2:
		x.R.Txn = d.one(1, 2, 3, 4, 0, -1)
	case 3:
		x.R.Page = d.one(0, 1, 2, 7, 8, -1)
	case 4:
		x.R.Off = d.one(0, 1, 5, 204, 219, 220, 221, -1)
	case 5, 6:
		x.R.Prev = n
	case 7:
		x.R.Next = n
	case 8:
		x.R.Begin = n
	case 9:
		x.R.Before = d.text(d.below(18))
	case 10:
		x.R.After = d.text(d.below(18))
	case 11:
		x.R.Before, x.R.After = x.R.After, x.R.Before
	}
}

func TestThrownLogsWithBends(t *testing.T) {
	met := map[string]int{}
	for seed := range 6000 {
		d := dice(seed)
		list := thrownLog(&d, 1+seed%40)
		for range 1 + d.below(3) {
			d.bend(&list[d.below(len(list))])
		}
		if d.below(10) == 0 { // one comes again, or is gone
			i := d.below(len(list))
			list = slices.Insert(list, i, list[d.below(len(list))])
			list = slices.Delete(list, d.below(len(list)), len(list))
		}
		alike(t, list)
		for i, x := range list {
			met[fmt.Sprint(broken(list[:i], x))]++
		}
	}
	for _, s := range []string{"[]", "[1]", "[2]", "[3]", "[4]", "[5]", "[6]", "[1 2]", "[2 3]", "[2 4]", "[2 5]"} {
		if met[s] < 40 {
			t.Errorf("%s was met %d times only", s, met[s])
		}
	}
}

// Each record of the sample with each number in each of its fields.
func TestEachNumberInEachField(t *testing.T) {
	fields := []func(x *api.Entry, n int){
		func(x *api.Entry, n int) { x.At = n },
		func(x *api.Entry, n int) { x.R.Kind = n },
		func(x *api.Entry, n int) { x.R.Txn = n },
		func(x *api.Entry, n int) { x.R.Page = n },
		func(x *api.Entry, n int) { x.R.Off = n },
		func(x *api.Entry, n int) { x.R.Prev = n },
		func(x *api.Entry, n int) { x.R.Next = n },
		func(x *api.Entry, n int) { x.R.Begin = n },
	}
	numbers := append(wild(), 3, 4, 6)
	for _, x := range sample() {
		numbers = append(numbers, x.At-1, x.At, x.At+1)
	}
	list := sample()
	for i := range list {
		for _, set := range fields {
			for _, n := range numbers {
				alike(t, bent(list, i, func(x *api.Entry) { set(x, n) }))
			}
		}
	}
}

// Rule 1: places and kinds.

func TestPlacesOfTheFirstRecord(t *testing.T) {
	for _, at := range wild() {
		list := []api.Entry{begin(at)}
		if at > 0 {
			wantFaults(t, "a place above 0", list)
		} else {
			wantFaults(t, "a place that isn't above 0", list, at)
		}
	}
}

func TestPlacesOfTwoRecords(t *testing.T) {
	for _, a := range wild() {
		for _, b := range wild() {
			var want []int
			if a <= 0 {
				want = append(want, a)
			}
			if b <= 0 || b <= a {
				want = append(want, b)
			}
			wantFaults(t, "two places", []api.Entry{begin(a), begin(b)}, want...)
		}
	}
}

// A place must be above all ahead, not above the last one alone.
func TestBehindAPlaceThatFalls(t *testing.T) {
	wantFaults(t, "below the greatest", []api.Entry{begin(100), begin(50), begin(60), begin(99), begin(100), begin(101)}, 50, 60, 99, 100)
	wantFaults(t, "the same", []api.Entry{begin(100), begin(100), begin(100), begin(101)}, 100, 100)
	wantFaults(t, "below 0", []api.Entry{begin(-5), begin(-4), begin(0), begin(1), begin(0), begin(2)}, -5, -4, 0, 0)
	wantFaults(t, "a far one", []api.Entry{begin(10), begin(1 << 40), begin(20), begin(30), begin(1<<40 + 1)}, 20, 30)
	// One of no kind has a place, too.
	wantFaults(t, "no kind", []api.Entry{begin(10), {At: 50}, begin(20), begin(50), begin(51)}, 50, 20, 50)
}

// A record whose place is wrong is its transaction's last one, and at that place.
func TestAWrongPlaceIsALastPlace(t *testing.T) {
	for _, at := range []int{-7, 0, 5, 127, 128} {
		list := []api.Entry{begin(128), up(at, 1, 0, 0, 0, "\x00", "a"), up(140, 1, at, 0, 0, "a", "b"), commit(150, 1, 140)}
		wantFaults(t, "a wrong place", list, at)
		wantOpen(t, "a wrong place", list[:3], 1, at, 140)
		wantOpen(t, "a wrong place alone", list[:2], 1, at, at)
		wantPages(t, "a wrong place", list, "b")
		list[2].R.Prev = 128
		if at != 128 {
			wantFaults(t, "another Prev", list, at, 140)
		}
		list = []api.Entry{begin(128), up(130, 1, 0, 0, 0, "\x00", "a"), up(at, 1, 130, 0, 0, "a", "b"), un(at, 1, at, 130, 0, 0, "a"), un(150, 1, at, 0, 0, 0, "\x00"), end(160, 1, 150)}
		wantFaults(t, "two wrong places", list, at, at)
		wantOpen(t, "two wrong places", list[:4], 1, 130, at)
	}
	// A place of 0, too, is a last one: then Prev is 0 in both cases.
	list := []api.Entry{up(0, 1, 0, 0, 0, "\x00", "a"), commit(10, 1, 0), commit(20, 1, 0)}
	wantFaults(t, "the place 0", list, 0)
}

func TestKinds(t *testing.T) {
	for _, kind := range append(wild(), 3, 4, 6, 256+5, 1<<32+5) {
		list := []api.Entry{begin(10), {At: 20, R: api.Rec{Kind: kind, Txn: 9, Begin: 10, Prev: 0}}, begin(30)}
		switch kind {
		case 1, 3, 4, 5, 6:
			wantFaults(t, "a kind", list)
		default: // 2 undoes nothing
			wantFaults(t, "none of the kinds", list, 20)
		}
	}
}

// A record of no kind is in no transaction, on no page, and begins no checkpoint.
func TestARecordOfNoKindDoesNothing(t *testing.T) {
	for _, kind := range []int{0, 7, 8, -1, -2, 257, 1<<32 + 1} {
		no := api.Entry{At: 145, R: api.Rec{Kind: kind, Txn: 1, Prev: 128, Off: 1, Before: "\x00", After: "x"}}
		list := slices.Insert(sample(), 2, no)
		wantFaults(t, "no kind", list, 145)
		wantOpen(t, "no kind", list[:3], 1, 128, 128, 2, 140, 140)
		wantCommits(t, "no kind", list, 1, 1)
		wantPages(t, "no kind", list, "e", "")
		list = []api.Entry{{At: 10, R: api.Rec{Kind: kind}}, tabs(20, 10)}
		wantFaults(t, "no kind begins a checkpoint", list, 10, 20)
	}
	list := sample()
	list[2].R.Kind = 7
	wantFaults(t, "an RBegin that is none", list, 150, 170)
	list = sample()
	list[5].R.Kind = 7 // the RUndo
	wantFaults(t, "an RUndo that is none", list, 180, 190)
	wantPages(t, "an RUndo that is none", list, "ed")
	list = sample()
	list[6].R.Kind = 0 // the RCommit
	wantFaults(t, "an RCommit that is none", list, 190, 220)
	wantCommits(t, "an RCommit that is none", list, 1)
}

// Rule 2: Prev.

func TestPrevOfAFirstRecord(t *testing.T) {
	for _, prev := range wild() {
		for _, x := range []api.Entry{up(128, 1, prev, 0, 0, "\x00", "a"), commit(128, 1, prev), end(128, 1, prev)} {
			for _, list := range [][]api.Entry{{x}, {begin(3), x}, {commit(3, 2, 0), x}, {commit(3, 1, 0), x}, {up(3, 2, 0, 1, 0, "\x00", "a"), x}} {
				if prev == 0 {
					wantFaults(t, "a first record", list)
				} else {
					wantFaults(t, "a first record", list, 128)
				}
			}
		}
		// An RUndo that is the first one undoes nothing, so it breaks rule 3, too.
		rules := []int{2, 3}
		if prev == 0 {
			rules = []int{3}
		}
		wantBroken(t, "a first RUndo", []api.Entry{un(128, 1, prev, 0, 0, 0, "a")}, map[int][]int{0: rules})
	}
}

func TestPrevOfEachRecordOfATransaction(t *testing.T) {
	list := sample()
	for _, i := range []int{0, 1, 3, 5, 6, 7, 8, 9, 10} {
		right := list[i].R.Prev
		for _, prev := range []int{right - 1, right + 1, -right - 1, right + 1<<32, list[i].At, 128, 140, 150, 160, 170, 180, 190, 200, 210, 0} {
			c := bent(list, i, func(x *api.Entry) { x.R.Prev = prev })
			switch {
			case prev == right:
				wantFaults(t, "as it was", c)
			case i == 3: // the RUndo of it has as Next its Prev
				wantFaults(t, "another Prev", c, 160, 180)
			case i == 1:
				wantFaults(t, "another Prev", c, 140, 200)
			default:
				wantFaults(t, "another Prev", c, list[i].At)
			}
		}
	}
}

// Prev is the last place of its own transaction, whatever others do between.
func TestPrevBesideOthers(t *testing.T) {
	list := []api.Entry{
		up(10, 1, 0, 0, 0, "\x00", "a"), up(20, 2, 0, 1, 0, "\x00", "a"), up(30, 3, 0, 2, 0, "\x00", "a"),
		up(40, 2, 20, 1, 0, "a", "b"), up(50, 1, 10, 0, 0, "a", "b"), commit(60, 2, 40), un(70, 3, 30, 0, 2, 0, "\x00"),
		end(80, 3, 70), up(90, 2, 0, 1, 0, "b", "c"), up(100, 1, 50, 0, 0, "b", "c"), commit(110, 1, 100), commit(120, 2, 90),
	}
	wantFaults(t, "three beside each other", list)
	for i, x := range list {
		for _, at := range places(list[:i]) {
			if at == x.R.Prev {
				continue
			}
			c := bent(list, i, func(x *api.Entry) { x.R.Prev = at })
			want := []int{x.At}
			if x.At == 30 { // what its RUndo has as Next
				want = append(want, 70)
			}
			wantFaults(t, "that of another one", c, want...)
		}
	}
}

// Behind an RCommit or an REnd the number begins anew, whether that was right or wrong.
func TestANumberThatBeginsAnew(t *testing.T) {
	for _, over := range []func(at, txn, prev int) api.Entry{commit, end} {
		list := []api.Entry{over(10, 1, 0), over(20, 1, 0), up(30, 1, 0, 0, 0, "\x00", "a"), commit(40, 1, 30), up(50, 1, 0, 0, 0, "a", "b"), commit(60, 1, 50)}
		wantFaults(t, "anew", list)
		list[4].R.Prev = 40
		wantFaults(t, "that of the one ahead", list, 50)
		list[4].R.Prev = 30
		wantFaults(t, "that of the one ahead", list, 50)
		list[4].R.Prev, list[1].R.Prev = 0, 10
		wantFaults(t, "behind one without records", list, 20)
	}
	// Those that stand when it is over don't stand for the new one.
	list := []api.Entry{up(10, 1, 0, 0, 0, "\x00", "a"), commit(20, 1, 10), un(30, 1, 0, 0, 0, 0, "\x00"), end(40, 1, 30)}
	wantBroken(t, "behind an RCommit", list, map[int][]int{2: {3}})
	list[1].R.Kind = api.REnd
	wantBroken(t, "behind an REnd", list, map[int][]int{1: {4}, 2: {3}})
	list = []api.Entry{up(10, 1, 0, 0, 0, "\x00", "a"), end(20, 1, 10), end(30, 1, 0), up(40, 1, 0, 0, 0, "a", "b"), un(50, 1, 40, 0, 0, 0, "a"), end(60, 1, 50)}
	wantBroken(t, "behind a wrong REnd", list, map[int][]int{1: {4}})
	list[1].R.Prev = 9
	wantBroken(t, "behind a wrong REnd", list, map[int][]int{1: {2, 4}})
	list = []api.Entry{up(10, 1, 0, 0, 0, "\x00", "a"), commit(20, 1, 9), up(30, 1, 0, 0, 0, "a", "b")}
	wantBroken(t, "behind a wrong RCommit", list, map[int][]int{1: {2}})
	wantOpen(t, "behind a wrong RCommit", list, 1, 30, 30)
}

// Prev of one that is behind a record that breaks a rule is that record's place.
func TestPrevBehindAWrongRecord(t *testing.T) {
	wrong := []api.Entry{
		up(20, 1, 7, 0, 0, "a", "b"),   // rule 2
		up(20, 1, 10, 0, 0, "x", "b"),  // rule 5
		up(20, 1, 10, 0, 220, "", "b"), // rule 5
		up(20, 1, 10, 8, 0, "x", "b"),  // rule 5
		up(10, 1, 10, 0, 0, "a", "b"),  // rule 1
		up(-9, 1, 10, 0, 0, "a", "b"),  // rule 1
		un(20, 1, 10, 0, 0, 0, "x"),    // rule 3
		un(20, 1, 9, 0, 0, 0, "\x00"),  // rule 2
	}
	for _, x := range wrong {
		list := []api.Entry{up(10, 1, 0, 0, 0, "\x00", "a"), x, commit(30, 1, x.At)}
		wantFaults(t, "behind a wrong one", list, x.At)
		for _, prev := range []int{0, 10, 20, 9, 7, -9} {
			if prev != x.At {
				list[2].R.Prev = prev
				wantFaults(t, "behind a wrong one", list, x.At, 30)
			}
		}
	}
}

func TestPrevOfCheckpointsIsNotAsked(t *testing.T) {
	for _, n := range wild() {
		list := []api.Entry{up(10, 1, 0, 0, 0, "\x00", "a"), begin(20), tabs(30, 20), commit(40, 1, 10)}
		for _, txn := range []int{0, 1, 2} {
			list[1].R.Prev, list[1].R.Txn, list[2].R.Prev, list[2].R.Txn = n, txn, n, txn
			wantFaults(t, "a checkpoint with a Prev", list)
			wantOpen(t, "a checkpoint with a Txn", list[:3], 1, 10, 10)
		}
	}
}

// Rule 3: RUndos.

func TestAnUndoOfTheLastThatStands(t *testing.T) {
	list := []api.Entry{up(10, 1, 0, 3, 5, "\x00\x00", "ab"), up(20, 1, 10, 4, 6, "\x00", "c"), un(30, 1, 20, 10, 4, 6, "\x00")}
	wantFaults(t, "the last one", list)
	bends := map[string]func(r *api.Rec){
		"another page":          func(r *api.Rec) { r.Page = 3 },
		"no page":               func(r *api.Rec) { r.Page = 8 },
		"another Off":           func(r *api.Rec) { r.Off = 5 },
		"an Off beyond":         func(r *api.Rec) { r.Off = 220 },
		"other bytes":           func(r *api.Rec) { r.After = "c" },
		"more bytes":            func(r *api.Rec) { r.After = "\x00\x00" },
		"no bytes":              func(r *api.Rec) { r.After = "" },
		"another Next":          func(r *api.Rec) { r.Next = 20 },
		"Next 0":                func(r *api.Rec) { r.Next = 0 },
		"Next below 0":          func(r *api.Rec) { r.Next = -10 },
		"one ahead of the last": func(r *api.Rec) { r.Page, r.Off, r.After, r.Next = 3, 5, "\x00\x00", 0 },
	}
	for what, bend := range bends {
		c := bent(list, 2, func(x *api.Entry) { bend(&x.R) })
		wantBroken(t, what, c, map[int][]int{2: {3}})
		// It undoes the last change all the same, so that the one ahead is the last now.
		c = append(c, un(40, 1, 30, 0, 3, 5, "\x00\x00"), end(50, 1, 40))
		wantBroken(t, what, c, map[int][]int{2: {3}})
		c[3] = un(40, 1, 30, 10, 4, 6, "\x00")
		wantBroken(t, what+", and what it should be behind it", c, map[int][]int{2: {3}, 3: {3}})
		c[4] = commit(50, 1, 40)
		wantPages(t, what+", and both undone", c, "", "", "", "", "")
	}
}

func TestAnUndoWithNothingThatStands(t *testing.T) {
	first := un(10, 1, 0, 0, 0, 0, "a")
	wantBroken(t, "the first record", []api.Entry{first, end(20, 1, 10)}, map[int][]int{0: {3}})
	wantOpen(t, "the first record", []api.Entry{first}, 1, 10, 10)
	// What it does to its page it does.
	list := []api.Entry{first, up(20, 1, 10, 0, 0, "a", "b"), un(30, 1, 20, 10, 0, 0, "a"), end(40, 1, 30)}
	wantBroken(t, "a change behind it", list, map[int][]int{0: {3}})
	// Nor does it undo a change that comes later.
	list = []api.Entry{first, up(20, 1, 10, 0, 0, "a", "b"), end(30, 1, 20)}
	wantBroken(t, "a change behind it", list, map[int][]int{0: {3}, 2: {4}})
	list[2].R.Kind = api.RCommit
	wantPages(t, "a change behind it", list, "b")
	list = []api.Entry{up(10, 1, 0, 0, 0, "\x00", "a"), un(20, 1, 10, 0, 0, 0, "\x00"), un(30, 1, 20, 0, 0, 0, "\x00"), un(40, 1, 30, 0, 0, 0, "\x00"), end(50, 1, 40)}
	wantBroken(t, "once more, and again", list, map[int][]int{2: {3}, 3: {3}})
	list = []api.Entry{up(10, 2, 0, 0, 0, "\x00", "a"), un(20, 1, 0, 0, 0, 0, "\x00"), end(30, 2, 10)}
	wantBroken(t, "another one's change", list, map[int][]int{1: {3}, 2: {4}})
}

// Changes and undos in turns: each undo is of the last one that stands, not of the last one.
func TestUndosAmongChanges(t *testing.T) {
	list := []api.Entry{
		up(10, 1, 0, 0, 0, "\x00", "a"), up(20, 1, 10, 0, 1, "\x00", "b"), un(30, 1, 20, 10, 0, 1, "\x00"),
		up(40, 1, 30, 0, 2, "\x00", "c"), un(50, 1, 40, 30, 0, 2, "\x00"), un(60, 1, 50, 0, 0, 0, "\x00"),
		up(70, 1, 60, 0, 3, "\x00", "d"), up(80, 1, 70, 0, 3, "d", "e"), commit(90, 1, 80),
	}
	wantFaults(t, "among changes", list)
	wantPages(t, "among changes", list, "\x00\x00\x00e")
	c := bent(list, 5, func(x *api.Entry) { x.R.Off, x.R.Next = 1, 10 })
	wantFaults(t, "what was undone already", c, 60)
	c = bent(list, 4, func(x *api.Entry) { x.R.Next = 10 })
	wantFaults(t, "Next that isn't its Prev, though it stands", c, 50)
}

// What else an RUndo has is looked at by nobody.
func TestWhatAnUndoHasNot(t *testing.T) {
	list := sample()
	for _, i := range []int{5, 7} {
		for _, n := range wild() {
			wantFaults(t, "fields that it hasn't", bent(list, i, func(x *api.Entry) {
				x.R.Begin, x.R.Before, x.R.Txns, x.R.Pages = n, "xyz", []api.TxnRow{{Txn: n}}, []api.PageRow{{Page: n}}
			}))
		}
	}
}

// Rule 4: an REnd with changes that stand.

func TestEndsAndCommitsWithChanges(t *testing.T) {
	for stand := range 5 {
		for undone := range 4 {
			w := &writer{}
			for i := range stand + undone {
				w.up(1, 0, i, "x")
			}
			for range undone {
				w.undo(1)
			}
			w.add(api.Rec{Kind: api.REnd, Txn: 1})
			last := len(w.list) - 1
			if stand > 0 {
				wantBroken(t, "an REnd", w.list, map[int][]int{last: {4}})
			} else {
				wantFaults(t, "an REnd", w.list)
			}
			wantOpen(t, "an REnd", w.list)
			wantPages(t, "an REnd", w.list, "")
			wantFaults(t, "an RCommit", bent(w.list, last, func(x *api.Entry) { x.R.Kind = api.RCommit }))
		}
	}
	// Changes of others stand as they please.
	list := []api.Entry{up(10, 2, 0, 0, 0, "\x00", "a"), end(20, 1, 0), end(30, 3, 0)}
	wantFaults(t, "another one's", list)
}

// Rule 5: Before.

func TestBeforeIsWhatStands(t *testing.T) {
	list := []api.Entry{up(10, 1, 0, 0, 3, "\x00\x00", "ab"), up(20, 2, 0, 0, 4, "b\x00", "cd"), un(30, 2, 20, 0, 0, 4, "b\x00"), up(40, 3, 0, 0, 2, "\x00ab\x00", "....")}
	wantFaults(t, "what stands", list)
	for i, x := range list {
		if x.R.Kind != api.RUpdate {
			continue
		}
		n := len(x.R.Before)
		for k := range n {
			b := []byte(x.R.Before)
			b[k] ^= 1
			c := bent(list, i, func(x *api.Entry) { x.R.Before = string(b) })
			rules := map[int][]int{i: {5}}
			if i == 1 {
				rules[2] = []int{3}
			}
			wantBroken(t, "another byte", c, rules)
		}
		// Of another length than After, but what stands there.
		if i != 1 {
			s := on(list[:i], 0)
			for k := range 30 {
				off := x.R.Off
				wantFaults(t, "another length", bent(list, i, func(x *api.Entry) { x.R.Before = string(s[off : off+k]) }))
			}
		}
	}
}

// What a wrong record does to a page is done, also where it is its place that is wrong, or where it comes from no page that it told right.
func TestBeforeBehindWrongRecords(t *testing.T) {
	wrong := map[string]api.Entry{
		"a place that falls":    up(5, 2, 0, 0, 0, "x", "b"),
		"the same place":        up(10, 2, 0, 0, 0, "x", "b"),
		"a place below 0":       up(-5, 2, 0, 0, 0, "x", "b"),
		"another Prev":          up(15, 2, 9, 0, 0, "x", "b"),
		"another Before":        up(15, 2, 0, 0, 0, "y", "b"),
		"an RUndo of nothing":   un(15, 2, 0, 0, 0, 0, "b"),
		"an RUndo that falls":   un(3, 2, 0, 0, 0, 0, "b"),
		"a Before that is long": up(15, 2, 0, 0, 0, "x"+filled(""), "b"),
	}
	for what, x := range wrong {
		list := []api.Entry{up(10, 1, 0, 0, 0, "\x00", "x"), x, up(20, 3, 0, 0, 0, "b", "c")}
		wantFaults(t, what, list, x.At)
		list[2].R.Before = "x"
		wantFaults(t, what, list, x.At, 20)
	}
	// One whose After is partly beyond its page does nothing to it.
	for _, x := range []api.Entry{up(15, 2, 0, 0, 219, "\x00", "ab"), up(15, 2, 0, 0, 219, "\x00\x00", "ab"), up(15, 2, 0, 0, -1, "\x00\x00", "ab"), up(15, 2, 0, 8, 0, "\x00", "a")} {
		list := []api.Entry{x, up(20, 3, 0, 0, 219, "\x00", "c"), up(30, 4, 0, 0, 0, "\x00", "c")}
		wantFaults(t, "beyond its page", list, 15)
	}
	// A record whose place is greater than any record's may be is on its page like others.
	list := []api.Entry{up(1<<31, 1, 0, 0, 0, "\x00", "a"), up(1<<40, 1, 1<<31, 0, 0, "a", "b"), commit(1<<41, 1, 1<<40)}
	wantFaults(t, "great places", list)
	wantPages(t, "great places", list, "b")
}

// Records of other kinds leave pages as they are, whatever they have in their fields.
func TestBeforeBehindOtherKinds(t *testing.T) {
	for _, kind := range []int{3, 4, 5, 6, 0, 7, -1} {
		x := api.Entry{At: 10, R: api.Rec{Kind: kind, Txn: 1, After: "x", Before: "y"}}
		list := []api.Entry{x, up(20, 2, 0, 0, 0, "\x00", "a")}
		alike(t, list)
		if got := places(judge.Faults(list)); slices.Contains(got, 20) {
			t.Errorf("behind kind %d: faults at %v", kind, got)
		}
	}
}

func TestBeforeAtThePagesEnds(t *testing.T) {
	for _, n := range []int{0, 1, 2, 15, 16, 17, 219, 220, 221, 300, 5000} {
		text := string(make([]byte, n))
		for _, off := range append(wild(), 219-n, 220-n, 221-n, 204, 205) {
			fits := off >= 0 && off <= 220-n
			all := map[int][]int{0: {5}}
			if fits {
				all = nil
			}
			wantBroken(t, "both texts", []api.Entry{up(10, 1, 0, 0, off, text, text)}, all)
			wantBroken(t, "After alone", []api.Entry{up(10, 1, 0, 7, off, "", text)}, all)
			wantBroken(t, "Before alone", []api.Entry{up(10, 1, 0, 0, off, text, "")}, all)
		}
	}
	// Each byte of a page, the first and the last one, too.
	var list []api.Entry
	for i := range 220 {
		list = append(list, up(10+i, 1+i, 0, 7, i, "\x00", string([]byte{byte(i)})))
	}
	wantFaults(t, "each byte", list)
	for i := range 220 {
		b := byte(i)
		wantFaults(t, "each byte again", append(slices.Clip(list), up(1000, 1000, 0, 7, i, string([]byte{b}), "x")))
		wantFaults(t, "another one than stands", append(slices.Clip(list), up(1000, 1000, 0, 7, i, string([]byte{b + 1}), "x")), 1000)
		wantFaults(t, "another one behind it", append(slices.Clip(list), up(1000, 1000, 0, 7, i, string([]byte{b, b}), "x")), 1000)
	}
}

// There are the pages 0 to 7, each one for itself; on others nothing stands.
func TestBeforeOfEachPage(t *testing.T) {
	for _, n := range wild() {
		rules := map[int][]int{0: {5}, 1: {5}}
		if n >= 0 && n <= 7 {
			rules = nil
		}
		list := []api.Entry{up(10, 1, 0, n, 0, "\x00", "a"), up(20, 1, 10, n, 0, "a", "b"), un(30, 1, 20, 10, n, 0, "a"), commit(40, 1, 30)}
		wantBroken(t, "a page", list, rules)
		for _, size := range []int{1, 7, 8} {
			alikePages(t, list, size)
		}
	}
	for n := range 8 {
		list := []api.Entry{up(10, 1, 0, n, 0, "\x00", "a")}
		for k := range 8 {
			before := "\x00"
			if k == n {
				before = "a"
			}
			wantFaults(t, "its own page", append(slices.Clip(list), up(20, 2, 0, k, 0, before, "c")))
		}
	}
}

// Rule 6: RTables.

func TestTablesOfABegin(t *testing.T) {
	list := []api.Entry{begin(10), commit(20, 1, 0), begin(30), tabs(40, 10), tabs(50, 30), tabs(60, 10), begin(70), tabs(80, 70)}
	wantFaults(t, "of each ahead, also twice", list)
	for i, x := range list {
		if x.R.Kind != api.RTables {
			continue
		}
		for _, n := range append(wild(), 9, 10, 11, 20, 29, 30, 31, 40, 50, 60, 69, 70, 71, 80, 1<<32+10, -10) {
			c := bent(list, i, func(x *api.Entry) { x.R.Begin = n })
			if n == 10 || n == 30 || n == 70 && i == 7 {
				wantFaults(t, "an RBegin ahead", c)
			} else {
				wantBroken(t, "no RBegin ahead", c, map[int][]int{i: {6}})
			}
		}
	}
	for _, n := range wild() {
		wantBroken(t, "no RBegin at all", []api.Entry{tabs(10, n)}, map[int][]int{0: {6}})
		wantBroken(t, "one behind", []api.Entry{tabs(10, 20), begin(20)}, map[int][]int{0: {6}})
	}
	// A place of another record.
	for _, kind := range []int{1, 3, 4} {
		list := []api.Entry{{At: 10, R: api.Rec{Kind: kind, Txn: 1}}, tabs(20, 10)}
		wantBroken(t, "another kind", list, map[int][]int{1: {6}})
	}
	wantBroken(t, "that of tables", []api.Entry{begin(10), tabs(20, 10), tabs(30, 20)}, map[int][]int{2: {6}})
}

// An RBegin whose place is wrong stands at that place.
func TestTablesOfAWrongBegin(t *testing.T) {
	for _, at := range []int{0, -3, 100, 50} {
		list := []api.Entry{up(100, 1, 0, 0, 0, "\x00", "a"), begin(at), tabs(200, at)}
		wantBroken(t, "a wrong RBegin", list, map[int][]int{1: {1}})
	}
	wantBroken(t, "Begin 0", []api.Entry{begin(0), tabs(10, 0)}, map[int][]int{0: {1}})
	wantBroken(t, "tables with a wrong place", []api.Entry{begin(10), tabs(10, 10), tabs(9, 10), tabs(11, 10)}, map[int][]int{1: {1}, 2: {1}})
}

// Rows of tables are looked at by nobody.
func TestRowsOfTables(t *testing.T) {
	list := sample()
	for _, n := range wild() {
		c := bent(list, 4, func(x *api.Entry) {
			x.R.Txns = []api.TxnRow{{Txn: n, First: n, Last: n}, {Txn: 1, First: 5, Last: 6}}
			x.R.Pages = []api.PageRow{{Page: n, Rec: n}, {Page: n, Rec: n}}
		})
		wantFaults(t, "rows", c)
		wantOpen(t, "rows", c[:6], 1, 128, 180, 2, 140, 140)
	}
}

// More than one rule.

func TestEachRuleBrokenAlone(t *testing.T) {
	list := sample()
	for i, c := range []struct {
		what string
		at   int
		bend func(x *api.Entry)
		want map[int][]int
	}{
		{"1: a place", 2, func(x *api.Entry) { x.At = 140 }, map[int][]int{2: {1}, 4: {6}}},
		{"1: a place of tables", 4, func(x *api.Entry) { x.At = 160 }, map[int][]int{4: {1}}},
		{"1: a kind", 4, func(x *api.Entry) { x.R.Kind = 7 }, map[int][]int{4: {1}}},
		{"2: of an RUpdate", 9, func(x *api.Entry) { x.R.Prev = 190 }, map[int][]int{9: {2}}},
		{"2: of an RUndo", 5, func(x *api.Entry) { x.R.Prev = 128 }, map[int][]int{5: {2}}},
		{"2: of an RCommit", 6, func(x *api.Entry) { x.R.Prev = 160 }, map[int][]int{6: {2}}},
		{"2: of an REnd", 8, func(x *api.Entry) { x.R.Prev = 140 }, map[int][]int{8: {2}}},
		{"3", 5, func(x *api.Entry) { x.R.Next = 160 }, map[int][]int{5: {3}}},
		{"4", 6, func(x *api.Entry) { x.R.Kind = api.REnd }, map[int][]int{6: {4}}},
		{"5", 9, func(x *api.Entry) { x.R.Before = "\x00" }, map[int][]int{9: {5}}},
		{"6", 4, func(x *api.Entry) { x.R.Begin = 140 }, map[int][]int{4: {6}}},
	} {
		wantBroken(t, fmt.Sprint(i, ": rule ", c.what), bent(list, c.at, c.bend), c.want)
	}
}

// A record that breaks several rules is told once.
func TestSeveralRulesBrokenByOne(t *testing.T) {
	ahead := []api.Entry{up(10, 1, 0, 0, 0, "\x00", "a"), begin(20)}
	for what, c := range map[string]struct {
		x     api.Entry
		rules []int
	}{
		"1 and 2": {commit(20, 1, 9), []int{1, 2}},
		"1 and 3": {un(19, 1, 10, 0, 0, 1, "\x00"), []int{1, 3}},
		"1 and 4": {end(-1, 1, 10), []int{1, 4}},
		"1 and 5": {up(0, 1, 10, 0, 0, "b", "c"), []int{1, 5}},
		"1 and 6": {tabs(20, 19), []int{1, 6}},
		"2 and 3": {un(30, 1, 0, 10, 0, 0, "\x00"), []int{2, 3}},
		"2 and 4": {end(30, 1, 0), []int{2, 4}},
		"2 and 5": {up(30, 1, 20, 0, 220, "\x00", "c"), []int{2, 5}},
		"1 to 3":  {un(20, 1, 20, 20, 0, 0, "\x00"), []int{1, 2, 3}},
		"1, 2, 4": {end(5, 1, 20), []int{1, 2, 4}},
		"1, 2, 5": {up(10, 2, 10, -1, 0, "", ""), []int{1, 2, 5}},
	} {
		list := append(slices.Clip(ahead), c.x, commit(40, 3, 0))
		wantBroken(t, what, list, map[int][]int{2: c.rules})
	}
}

// All records of a log that is the wrong way round, or twice there.
func TestALogInAnotherOrder(t *testing.T) {
	list := sample()
	slices.Reverse(list)
	alike(t, list)
	list = append(sample(), sample()...)
	wantFaults(t, "twice", list, places(sample())...)
	for i := range sample() {
		for k := range sample() {
			c := sample()
			c[i], c[k] = c[k], c[i]
			alike(t, c)
			alike(t, slices.Delete(sample(), min(i, k), max(i, k)))
		}
	}
}

// P17.2

func TestCommitsInTheirOrder(t *testing.T) {
	list := []api.Entry{commit(10, 3, 0), commit(20, 1, 0), end(30, 5, 0), commit(40, 3, 0), {At: 50, R: api.Rec{Kind: 7, Txn: 8}}, commit(60, 2, 99), commit(5, -7, 0), commit(70, 3, 0)}
	wantCommits(t, "in order, each, right or wrong", list, 3, 1, 3, 2, -7, 3)
	wantCommits(t, "none", list[2:3])
	for _, n := range wild() {
		wantCommits(t, "any number", []api.Entry{up(10, n, 0, 0, 0, "\x00", "a"), commit(20, n, 10), commit(30, n, 0)}, n, n)
	}
}

func TestOpenIsToldRising(t *testing.T) {
	for seed := range 20 {
		d := dice(seed)
		numbers := wild()
		for i := range numbers { // in any order
			k := i + d.below(len(numbers)-i)
			numbers[i], numbers[k] = numbers[k], numbers[i]
		}
		w := &writer{}
		want := map[int][]int{}
		for i, n := range numbers {
			at := w.up(n, i%8, i, "a")
			want[n] = []int{n, at, at}
		}
		for _, n := range numbers {
			want[n][2] = w.up(n, 0, 0, "b")
		}
		var rows []int
		for _, n := range wild() {
			rows = append(rows, want[n]...)
		}
		wantOpen(t, "rising", w.list, rows...)
		wantFaults(t, "numbers of all sizes", w.list)
		for i, n := range wild() { // each of them over
			list := append(slices.Clip(w.list), commit(w.next(), n, want[n][2]))
			wantOpen(t, "one is over", list, slices.Delete(slices.Clone(rows), 3*i, 3*i+3)...)
		}
	}
}

// A transaction is open with whichever record it begins; one that begins with its end never is.
func TestWhatOpens(t *testing.T) {
	wantOpen(t, "an RUpdate", []api.Entry{up(10, 1, 0, 0, 0, "\x00", "a")}, 1, 10, 10)
	wantOpen(t, "an RUndo", []api.Entry{un(10, 1, 0, 0, 0, 0, "a")}, 1, 10, 10)
	for _, kind := range []int{3, 4, 5, 6, 0, 7, -1, 257} {
		wantOpen(t, "another kind", []api.Entry{{At: 10, R: api.Rec{Kind: kind, Txn: 1}}})
	}
	list := []api.Entry{up(10, 1, 0, 0, 0, "\x00", "a"), un(20, 1, 10, 0, 0, 0, "\x00")}
	wantOpen(t, "all undone, but not over", list, 1, 10, 20)
	list = append(list, up(30, 1, 20, 0, 0, "\x00", "b"))
	wantOpen(t, "and on", list, 1, 10, 30)
	wantOpen(t, "over", append(list, end(40, 1, 30)))
	wantOpen(t, "anew", append(list, commit(40, 1, 30), up(50, 1, 0, 0, 0, "b", "c"), un(60, 1, 50, 0, 0, 0, "b")), 1, 50, 60)
}

// The first and the last place are those of the first and the last record, also where places fall.
func TestOpenOfPlacesThatFall(t *testing.T) {
	list := []api.Entry{up(50, 1, 0, 0, 0, "\x00", "a"), up(10, 1, 50, 0, 0, "a", "b"), up(30, 1, 10, 0, 0, "b", "c")}
	wantOpen(t, "places that fall", list[:2], 1, 50, 10)
	wantOpen(t, "places that fall", list, 1, 50, 30)
	wantOpen(t, "one below 0", append(list, un(-4, 1, 30, 10, 0, 0, "b")), 1, 50, -4)
}

// P17.3

func TestHowManyPages(t *testing.T) {
	list := []api.Entry{up(10, 1, 0, 0, 0, "\x00", "a"), up(20, 1, 10, 7, 219, "\x00", "h"), up(30, 1, 20, 3, 0, "\x00", "d"), commit(40, 1, 30)}
	for _, n := range append(wild(), 3, 4, 6, 1<<32+3) {
		got := judge.Pages(list, n)
		if n < 0 || n > 8 {
			if len(got) != 0 || len(judge.Pages(nil, n)) != 0 {
				t.Errorf("%d pages: %d", n, len(got))
			}
			continue
		}
		want := []string{filled("a"), filled(""), filled(""), filled("d"), filled(""), filled(""), filled(""), string(make([]byte, 219)) + "h"}[:n]
		if !slices.Equal(got, want) {
			t.Errorf("%d pages: %q", n, got)
		}
		if empty := judge.Pages(nil, n); !slices.Equal(empty, slices.Repeat([]string{filled("")}, n)) {
			t.Errorf("%d pages of noughts: %q", n, empty)
		}
	}
	for n := range 9 {
		alikePages(t, list, n)
	}
}

// Changes of pages that aren't asked for, and of such as there are none.
func TestPagesThatAreNotAskedFor(t *testing.T) {
	for _, page := range wild() {
		list := []api.Entry{up(10, 1, 0, page, 0, "\x00", "x"), up(20, 1, 10, 1, 0, "\x00", "b"), commit(30, 1, 20)}
		for n := range 9 {
			got := judge.Pages(list, n)
			for i, text := range got {
				want := ""
				if i == page {
					want = "x"
				}
				if i == 1 {
					want = "b"
				}
				if text != filled(want) {
					t.Fatalf("a change of the page %d, %d pages: the page %d is %q", page, n, i, text)
				}
			}
			alikePages(t, list, n)
		}
	}
}

// Commit by commit, in the order of the RCommits, whichever changes came first.
func TestPagesInTheOrderOfTheCommits(t *testing.T) {
	ahead := []api.Entry{
		up(10, 1, 0, 0, 0, "\x00\x00", "aa"), up(20, 2, 0, 0, 1, "a\x00", "bb"), up(30, 1, 10, 0, 2, "b\x00", "cc"), up(40, 3, 0, 0, 0, "a", "d"),
	}
	one, two, three := commit(50, 1, 30), commit(60, 2, 20), commit(70, 3, 40)
	for _, c := range []struct {
		over []api.Entry
		want string
	}{
		{nil, ""},
		{[]api.Entry{one}, "aacc"}, {[]api.Entry{two}, "\x00bb"}, {[]api.Entry{three}, "d"},
		{[]api.Entry{one, two}, "abbc"}, {[]api.Entry{two, one}, "aacc"},
		{[]api.Entry{one, three}, "dacc"}, {[]api.Entry{three, one}, "aacc"},
		{[]api.Entry{one, two, three}, "dbbc"}, {[]api.Entry{two, three, one}, "aacc"},
		{[]api.Entry{three, one, two}, "abbc"}, {[]api.Entry{three, two}, "dbb"},
	} {
		list := append(slices.Clip(ahead), c.over...)
		for i := range c.over { // their places rise, whoever commits
			list[len(ahead)+i].At = 50 + 10*i
		}
		wantFaults(t, "in any order", list)
		wantPages(t, "in the order of the commits", list, c.want)
	}
}

// Changes of one transaction are done in their order, over each other, and each commit over those ahead.
func TestPagesInTheOrderOfTheChanges(t *testing.T) {
	w := &writer{}
	for _, s := range []string{"aaaa", "bbb", "cc"} {
		w.up(1, 0, 0, s)
	}
	w.up(1, 0, 1, "d")
	w.commit(1)
	wantPages(t, "over each other", w.list, "cdba")
	w.up(1, 0, 2, "ee")
	w.commit(1)
	wantPages(t, "the number anew", w.list, "cdee")
	w.up(2, 0, 0, "")
	w.up(2, 1, 216, "zzzz")
	w.commit(2)
	if got := judge.Pages(w.list, 2); got[1][210:] != "\x00\x00\x00\x00\x00\x00zzzz" {
		t.Errorf("at a page's end: %q", got[1])
	}
	wantFaults(t, "over each other", w.list)
}

// What was undone isn't done, nor what was ended, nor what is open.
func TestPagesWithoutWhatWasUndone(t *testing.T) {
	w := &writer{}
	w.up(1, 0, 0, "a")
	w.up(1, 0, 1, "b")
	w.undo(1)
	w.up(1, 0, 2, "c")
	w.up(2, 1, 0, "d")
	w.abort(2)
	w.up(2, 1, 1, "e")
	w.commit(1)
	w.up(3, 2, 0, "f")
	w.undo(3)
	w.commit(3)
	wantFaults(t, "undone", w.list)
	wantPages(t, "undone", w.list, "a\x00c", "", "")
	// An REnd with a change that stands is no commit.
	w.add(api.Rec{Kind: api.REnd, Txn: 2})
	w.commit(2)
	wantPages(t, "a wrong REnd", w.list, "a\x00c", "", "")
}

// Of wrong records all counts as if they were right; what an RUndo has as After is none of a page's changes.
func TestPagesOfWrongRecords(t *testing.T) {
	list := []api.Entry{up(50, 1, 9, 0, 0, "x", "a"), un(50, 1, 8, 7, 0, 5, "zzz"), up(20, 1, 7, 0, 1, "y", "b"), up(-3, 1, 0, 0, 2, "", "c"), commit(0, 1, 77)}
	wantPages(t, "wrong records", list, "\x00bc")
	wantPages(t, "an RUndo of nothing", []api.Entry{un(10, 1, 0, 0, 0, 0, "z"), commit(20, 1, 10)}, "")
	// One that isn't wholly on its page does nothing to it, but those beside it do.
	for _, off := range append(wild(), 218) {
		if off >= 0 && off <= 217 {
			continue
		}
		list = []api.Entry{up(10, 1, 0, 0, off, "", "xyz"), up(20, 1, 10, 0, 1, "\x00", "b"), commit(30, 1, 20)}
		wantPages(t, "beyond its page", list, "\x00b")
	}
}

// Wrong inputs.

func TestNothing(t *testing.T) {
	for _, list := range [][]api.Entry{nil, {}, sample()[:0]} {
		wantFaults(t, "no entries", list)
		wantOpen(t, "no entries", list)
		wantCommits(t, "no entries", list)
		wantPages(t, "no entries", list, "", "", "")
		if len(judge.Faults(list)) != 0 || len(judge.Open(list)) != 0 || len(judge.Commits(list)) != 0 || len(judge.Pages(list, 0)) != 0 {
			t.Error("no entries tell something")
		}
	}
	wantFaults(t, "an entry of noughts", []api.Entry{{}}, 0)
	wantFaults(t, "entries of noughts", []api.Entry{{}, {}}, 0, 0)
}

// Texts that are longer than any record's, also such as are longer than a page.
func TestLongTexts(t *testing.T) {
	for _, n := range []int{17, 100, 219, 220, 221, 1000, 1 << 20} {
		text := make([]byte, n)
		for i := range text {
			text[i] = byte('a' + i%26)
		}
		noughts := string(make([]byte, n))
		list := []api.Entry{up(10, 1, 0, 0, 0, noughts, string(text)), un(20, 1, 10, 0, 0, 0, noughts), up(30, 1, 20, 0, 0, noughts, string(text)), commit(40, 1, 30)}
		if n <= 220 {
			wantFaults(t, "a long text", list)
			wantPages(t, "a long text", list, string(text))
		} else {
			wantFaults(t, "a text that is too long", list, 10, 30)
			wantPages(t, "a text that is too long", list, "")
		}
		list[1].R.After = string(text)
		wantBroken(t, "a long RUndo", list[:2], func() map[int][]int {
			if n <= 220 {
				return map[int][]int{1: {3}}
			}
			return map[int][]int{0: {5}, 1: {3}}
		}())
	}
}

func TestTransactionsOfAllSizes(t *testing.T) {
	for _, n := range wild() {
		list := sample()
		for i := range list {
			if list[i].R.Txn == 1 {
				list[i].R.Txn = n
			}
		}
		if n == 2 {
			continue
		}
		wantFaults(t, "any number", list)
		wantCommits(t, "any number", list, n, n)
		wantOpen(t, "any number", list[:1], n, 128, 128)
		wantPages(t, "any number", list, "e", "")
	}
}

// Lists so long that nobody could go through all that is ahead for each record.
func TestLongLogs(t *testing.T) {
	const n = 1 << 16
	var list []api.Entry
	add := func(r api.Rec) int {
		list = append(list, api.Entry{At: 1 + len(list), R: r})
		return len(list)
	}
	for i := range n { // one with many changes, all of which are undone
		add(api.Rec{Kind: api.RUpdate, Txn: 1, Prev: i, Before: "\x00", After: "\x00"})
	}
	for i := range n {
		add(api.Rec{Kind: api.RUndo, Txn: 1, Prev: n + i, Next: n - 1 - i, After: "\x00"})
	}
	add(api.Rec{Kind: api.REnd, Txn: 1, Prev: 2 * n})
	for i := range n { // many at one time, each with a checkpoint
		add(api.Rec{Kind: api.RUpdate, Txn: n - i, Before: "\x00", After: "\x00"})
		add(api.Rec{Kind: api.RBegin})
	}
	for i := range n {
		add(api.Rec{Kind: api.RTables, Begin: 4*n + 1 - 2*i})
	}
	if f := judge.Faults(list); len(f) != 0 {
		t.Errorf("%d faults, from %d on", len(f), f[0].At)
	}
	open := judge.Open(list)
	if len(open) != n || open[0] != (api.TxnRow{Txn: 1, First: 4 * n, Last: 4 * n}) || open[n-1] != (api.TxnRow{Txn: n, First: 2*n + 2, Last: 2*n + 2}) {
		t.Errorf("%d are open", len(open))
	}
	for i := range n {
		add(api.Rec{Kind: api.RCommit, Txn: 1 + i, Prev: 4*n - 2*i})
	}
	if c := judge.Commits(list); len(c) != n || c[0] != 1 || c[n-1] != n {
		t.Errorf("%d commits", len(c))
	}
	if f, open := judge.Faults(list), judge.Open(list); len(f) != 0 || len(open) != 0 {
		t.Errorf("%d faults, %d are open", len(f), len(open))
	}
	if p := judge.Pages(list, 1); !slices.Equal(p, []string{filled("")}) {
		t.Errorf("the page %q", p)
	}
}

// The rules that hold everywhere.

func TestWhatIsHandedInStaysAsItIs(t *testing.T) {
	for seed := range 400 {
		d := dice(seed)
		list := thrownLog(&d, 1+seed%12)
		for range d.below(3) {
			d.bend(&list[d.below(len(list))])
		}
		for i := range list { // spare room behind the rows
			list[i].R.Txns = []api.TxnRow{{Txn: 1}, {Txn: 2}, {Txn: 3}}[:d.below(3)]
			list[i].R.Pages = []api.PageRow{{Page: 1}, {Page: 2}, {Page: 3}}[:d.below(3)]
		}
		room := append(slices.Clip(list), up(1, 2, 3, 4, 5, "6", "7"), tabs(8, 9))
		was := wholly(room)
		alike(t, room[:len(list)])
		if is := wholly(room); !sameEntries(is, was) {
			t.Fatalf("the list was%s\nand is%s", shown(was), shown(is))
		}
	}
}

// wholly is a list with memory of its own, in which rows have their spare room too.
func wholly(list []api.Entry) []api.Entry {
	c := slices.Clone(list)
	for i := range c {
		c[i].R.Txns = c[i].R.Txns[:cap(c[i].R.Txns)]
		c[i].R.Pages = c[i].R.Pages[:cap(c[i].R.Pages)]
	}
	return copied(c)
}

// faulty is a list of which each entry breaks a rule, with texts and rows.
func faulty() []api.Entry {
	rows := api.Rec{Kind: api.RTables, Begin: 7, Before: "ab", After: "cd", Txns: []api.TxnRow{{Txn: 1, First: 2, Last: 3}}, Pages: []api.PageRow{{Page: 1, Rec: 2}}}
	return []api.Entry{{At: 10, R: rows}, up(10, 1, 0, 0, 0, "efg", "hij"), {At: 20, R: rows}, un(-1, 1, 10, 0, 0, 0, "klm")}
}

func TestAnswersAreNewMemory(t *testing.T) {
	list := faulty()
	one, two := judge.Faults(list), judge.Faults(list)
	if !sameEntries(one, list) || !sameEntries(two, list) {
		t.Fatalf("faults: %s", shown(one))
	}
	for i, x := range one {
		for k, y := range slices.Concat(one[:i], two, list) {
			if shares(x.R.Txns, y.R.Txns) || shares(x.R.Pages, y.R.Pages) {
				t.Fatalf("the rows of %d and %d are one", i, k)
			}
			if sharesText(x.R.Before, y.R.Before) || sharesText(x.R.After, y.R.After) {
				t.Fatalf("the texts of %d and %d are one", i, k)
			}
		}
	}
	for i := range one {
		clear(one[i].R.Txns)
		clear(one[i].R.Pages)
	}
	clear(one[:cap(one)])
	if !sameEntries(list, faulty()) || !sameEntries(two, faulty()) {
		t.Error("an answer that is written over changes something else")
	}
	clear(list) // nor is the list kept
	if !sameEntries(two, faulty()) {
		t.Error("behind a change of the list")
	}
}

func TestListsAndPagesAreNewMemory(t *testing.T) {
	list := sample()
	for range 3 {
		commits, open, pages := judge.Commits(list), judge.Open(list[:6]), judge.Pages(list, 8)
		for i, p := range pages {
			for _, q := range slices.Concat(pages[:i], judge.Pages(list, 8)) {
				if sharesText(p, q) {
					t.Fatal("two pages share their bytes")
				}
			}
		}
		clear(commits[:cap(commits)])
		clear(open[:cap(open)])
		clear(pages[:cap(pages)])
		wantCommits(t, "again", list, 1, 1)
		wantOpen(t, "again", list[:6], 1, 128, 180, 2, 140, 140)
		wantPages(t, "again", list, "e", "", "", "", "", "", "", "")
	}
}

// A text of a whole page is no page's bytes: they are new memory, too.
func TestAPageIsNotATextThatWasHandedIn(t *testing.T) {
	whole := filled("whole")
	p := judge.Pages([]api.Entry{up(10, 1, 0, 0, 0, "", whole), commit(20, 1, 10)}, 1)
	if len(p) != 1 || p[0] != whole || sharesText(p[0], whole) {
		t.Errorf("the page %q", p)
	}
}

// A list is one with what it has: a longer list's beginning is told as a list of its own, and each time the same.
func TestAListIsWhatItHas(t *testing.T) {
	for seed := range 60 {
		d := dice(seed)
		list := thrownLog(&d, 30)
		d.bend(&list[d.below(len(list))])
		for n := range len(list) + 1 {
			want := judge.Faults(copied(list[:n]))
			rows := judge.Open(copied(list[:n]))
			for range 3 {
				if got := judge.Faults(list[:n]); !sameEntries(got, want) {
					t.Fatalf("faults at %v, not at %v, of%s", places(got), places(want), shown(list[:n]))
				}
				if got := judge.Open(list[:n]); !slices.Equal(got, rows) {
					t.Fatalf("open %v, not %v, of%s", got, rows, shown(list[:n]))
				}
			}
			alike(t, list[:n])
		}
	}
}
