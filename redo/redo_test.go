package redo_test

import (
	"fmt"
	"math"
	"slices"
	"strings"
	"testing"

	"careen/api"
	"careen/page"
	"careen/redo"
)

// The chapter's example.

func TestExample(t *testing.T) {
	list := []api.Entry{up(128, 0, 0, "a"), up(150, 0, 1, "b")}
	wantPages(t, "the example", list, 128, []api.Page{with(128, "a")}, with(150, "ab"))
	wantOne(t, "the example", list, 0, with(150, "ab"))
}

// All promises, over many lists.

// makers make one record more of a history, at a place.
func makers() []func(at int) api.Entry {
	return []func(at int) api.Entry{
		func(at int) api.Entry { return up(at, 0, 0, fmt.Sprint(at)) },
		func(at int) api.Entry { return un(at, 1, 1, fmt.Sprint(at)) },
		func(at int) api.Entry { return un(at, 0, 218, "yz") },
		func(at int) api.Entry { return up(at, 0, 219, "yz") },
		func(at int) api.Entry { return up(at, 1, 220, "") },
		func(at int) api.Entry { return up(at, 2, 0, "c") },
		func(at int) api.Entry { return up(at, -1, 0, "d") },
		func(at int) api.Entry {
			return api.Entry{At: at, R: api.Rec{Kind: api.RCommit, Txn: 1, After: "e"}}
		},
	}
}

// histories calls f with each history of n records, each of which is above the one ahead, at the same place, or below.
func histories(n, first int, f func(list []api.Entry)) {
	var lay func(list []api.Entry, at int)
	lay = func(list []api.Entry, at int) {
		if len(list) == n {
			f(list)
			return
		}
		for _, m := range makers() {
			for _, d := range []int{-10, 0, 10} {
				lay(append(slices.Clip(list), m(at+d)), at+d)
			}
		}
	}
	lay(nil, first)
}

func TestEachShortHistory(t *testing.T) {
	for n := range 4 {
		for _, first := range []int{100, 5} { // some of the latter are below 0
			histories(n, first, func(list []api.Entry) {
				alike(t, list, first, []api.Page{noughts(), numbered(first)})
				for n := -1; n < 4; n++ {
					alikeOne(t, list, n)
				}
				if n < 3 {
					alikeAll(t, list, []api.Page{numbered(first - 1), numbered(first + 1)})
					alikeAll(t, list, []api.Page{{At: -1, Data: noughts().Data}, {At: first}, noughts()})
				}
			})
		}
	}
}

// thrownEntry is an entry at a place as the dice fall; most are changes that a page has room for.
func thrownEntry(d *dice, at int) api.Entry {
	r := api.Rec{Kind: d.one(1, 1, 1, 2, 2, 2, 3, 4, 5, 6, 7, 0, -1), Txn: d.below(4), Page: d.one(0, 1, 2, 3, 0, 1, 2, 3, 4, 5, -1, 8, 1<<32), Before: "xx", Prev: d.below(9), Next: d.below(9)}
	r.After = d.text(d.one(0, 1, 2, 3, 8, 16, 16, 100))
	r.Off = d.one(d.below(221), d.below(221), 220-len(r.After), d.below(12), 221-len(r.After), -1)
	return api.Entry{At: at, R: r}
}

func thrownList(d *dice, n int) (list []api.Entry) {
	at := d.one(0, 1, 128, -40, maxNum-60)
	for range n {
		at += d.one(1, 1, 2, 3, 9)
		if d.below(20) == 0 { // it falls, or stays
			at -= d.below(12)
		}
		list = append(list, thrownEntry(d, at))
	}
	return list
}

// thrownPages is pages of which some are amid the list, some behind it, some no pages.
func thrownPages(d *dice, list []api.Entry, n int) (all []api.Page) {
	for range n {
		p := api.Page{At: list[d.below(len(list))].At + d.one(-1, 0, 1), Data: d.text(220)}
		switch d.below(8) {
		case 0, 1, 2:
			p.At = 0
		case 3:
			p.At = maxNum - d.below(2)
		case 4:
			p.Data = d.text(d.one(0, 1, 219, 221, 224))
		}
		all = append(all, p)
	}
	return all
}

func TestThrownLists(t *testing.T) {
	met := map[string]int{}
	for seed := range 700 {
		d := dice(seed)
		list := thrownList(&d, 1+seed%40)
		pages := thrownPages(&d, list, d.below(7))
		for _, from := range around(list) {
			got := alike(t, list, from, pages)
			for n, p := range got {
				switch {
				case !isRight(p):
					met["wrong"]++
				case p == pages[n]:
					met["as it was"]++
				case len(counting(list, from, n, pages[n].At)) > 2:
					met["more than two"]++
				}
			}
		}
		for n := -2; n < 10; n++ {
			if p := alikeOne(t, list, n); p != noughts() {
				met["one"]++
			}
		}
	}
	for _, s := range []string{"wrong", "as it was", "more than two", "one"} {
		if met[s] < 1000 {
			t.Errorf("%s was met %d times only", s, met[s])
		}
	}
}

// P14.1: Pages.

func TestNothing(t *testing.T) {
	list := []api.Entry{up(10, 0, 0, "a"), up(20, 1, 0, "b")}
	pages := []api.Page{numbered(5), noughts(), numbered(maxNum)}
	for _, from := range wild() {
		wantPages(t, "no entries", nil, from, pages, pages...)
		wantPages(t, "no entries", []api.Entry{}, from, pages, pages...)
		wantPages(t, "no pages", list, from, nil)
		wantPages(t, "no pages", list, from, []api.Page{})
		wantPages(t, "neither", nil, from, nil)
		wantPages(t, "an entry of noughts", []api.Entry{{}}, from, pages, pages...)
	}
}

func TestChangesOfSeveral(t *testing.T) {
	list := []api.Entry{up(128, 2, 0, "abc"), up(140, 0, 0, "de"), un(150, 2, 1, "B"), up(160, 2, 3, "f"), un(170, 0, 0, "\x00\x00"), up(180, 1, 0, "g"), un(190, 2, 0, "\x00\x00\x00")}
	none := noughts()
	all := [][]api.Page{
		{none, none, none},
		{none, none, with(128, "abc")},
		{with(140, "de"), none, with(128, "abc")},
		{with(140, "de"), none, with(150, "aBc")},
		{with(140, "de"), none, with(160, "aBcf")},
		{with(170, ""), none, with(160, "aBcf")},
		{with(170, ""), with(180, "g"), with(160, "aBcf")},
		{with(170, ""), with(180, "g"), with(190, "\x00\x00\x00f")},
	}
	for i, want := range all {
		wantPages(t, "changes of several", list[:i], 0, empties(3), want...)
		wantPages(t, "of the first two", list[:i], 0, empties(2), want[:2]...)
		for n, p := range want {
			wantOne(t, "changes of several", list[:i], n, p)
		}
	}
	for i := range list { // which of both kinds a change is makes no difference
		c := slices.Clone(list)
		c[i].R.Kind = 3 - c[i].R.Kind
		wantPages(t, "the other kind", c, 0, empties(3), all[7]...)
	}
	// From a later place on the ones ahead of it are missing.
	wantPages(t, "from the third one on", list, 150, empties(3), with(170, ""), with(180, "g"), with(190, "\x00\x00\x00f"))
	wantPages(t, "from the fourth one to the last but two", list[:5], 151, empties(3), with(170, ""), none, with(160, "\x00\x00\x00f"))
}

// Of a page's own changes it may have none, some or all, each page another number of them.
func TestPagesWithSomeOfTheirChanges(t *testing.T) {
	list := []api.Entry{up(10, 0, 0, "a"), up(20, 1, 0, "b"), up(30, 2, 0, "c"), un(40, 0, 1, "A"), un(50, 1, 1, "B"), un(60, 2, 1, "C")}
	all := []api.Page{with(40, "aA"), with(50, "bB"), with(60, "cC")}
	for _, from := range []int{math.MinInt, -1, 0, 10, 11, 20} {
		wantPages(t, "all, one, none", list, from, []api.Page{all[0], with(20, "b"), noughts()}, all...)
		wantPages(t, "all, none, one", list, from, []api.Page{all[0], noughts(), with(30, "c")}, all...)
	}
	wantPages(t, "none, one, all", list, 10, []api.Page{noughts(), with(20, "b"), all[2]}, all...)
	wantPages(t, "none, one, all; the first is ahead of from", list, 11, []api.Page{noughts(), with(20, "b"), all[2]}, with(40, "\x00A"), all[1], all[2])
	wantPages(t, "one, one, one", list, 40, []api.Page{with(10, "a"), with(20, "b"), with(30, "c")}, all...)
	for _, from := range around(list) {
		wantPages(t, "all of them", list, from, all, all...)
	}
}

func TestFrom(t *testing.T) {
	list := []api.Entry{up(-5, 0, 0, "-"), up(0, 0, 0, "0"), up(10, 0, 1, "a"), up(20, 0, 2, "b"), up(maxNum, 0, 3, "c")}
	whole := with(maxNum, "\x00abc")
	for _, from := range []int{math.MinInt, -6, -5, -4, -1, 0, 1, 9, 10} {
		wantPages(t, "below the first, or just at it", list, from, empties(1), whole)
	}
	for _, from := range []int{11, 19, 20} {
		wantPages(t, "behind the first", list, from, empties(1), with(maxNum, "\x00\x00bc"))
	}
	for _, from := range []int{21, maxNum - 1, maxNum} {
		wantPages(t, "the last only", list, from, empties(1), with(maxNum, "\x00\x00\x00c"))
	}
	for _, from := range []int{1 << 31, 1 << 32, math.MaxInt} {
		wantPages(t, "above all", list, from, empties(1), noughts())
	}
}

// A page's At is its own: what from is, and what the other pages have, makes no difference to it.
func TestAnEntryThatAPageHas(t *testing.T) {
	for _, at := range []int{1, 2, 127, 128, 255, 256, 1 << 16, 1 << 30, maxNum} {
		list := []api.Entry{up(at, 0, 0, "x"), un(at, 1, 0, "x"), up(at, 2, 0, "x")}
		pages := []api.Page{with(at-1, ""), with(at, ""), with(min(at+1, maxNum), "")}
		for _, from := range []int{0, at - 1, at} {
			wantPages(t, "below, just it, above", list, from, pages, with(at, "x"), pages[1], pages[2])
		}
		wantPages(t, "ahead of from", list, at+1, pages, pages...)
	}
	for _, at := range []int{0, -1, -128, 1 << 31, 1 << 32, 1<<32 + 7, math.MinInt, math.MaxInt} {
		wantPages(t, "a place that no page may have", []api.Entry{up(at, 0, 0, "x")}, math.MinInt, empties(1), noughts())
		wantOne(t, "a place that no page may have", []api.Entry{up(at, 0, 0, "x")}, 0, noughts())
	}
}

func TestARecordOfNoPageOfTheList(t *testing.T) {
	for count := range 5 {
		pages := make([]api.Page, count)
		for n := range pages {
			pages[n] = with(n, "as it was")
		}
		numbers := []int{-1, -2, -count, -count - 1, count, count + 1, 2 * count, 8, 9, -256, 256, 1<<32 - 1}
		for n := range count {
			numbers = append(numbers, 1<<32+n, n-1<<32, 256+n, n+math.MinInt, n-256, n+1<<16, n+1<<31)
		}
		for _, n := range append(numbers, wild()...) {
			if n >= 0 && n < count {
				continue
			}
			wantPages(t, "of no page", []api.Entry{up(10, n, 0, "x"), un(20, n, 0, "y")}, 0, pages, pages...)
			if count > 0 { // the others come to their own
				want := slices.Clone(pages)
				want[count-1] = with(15, "as it is!")
				wantPages(t, "beside one of no page", []api.Entry{up(10, n, 0, "x"), up(15, count-1, 0, "as it is!"), un(20, n, 0, "y")}, 0, pages, want...)
			}
		}
	}
}

// A list may have more pages than an engine has.
func TestAsManyPagesAsThereAre(t *testing.T) {
	for _, count := range []int{1, 2, 7, 8, 9, 16, 17, 300} {
		var list []api.Entry
		var want []api.Page
		for n := range count {
			list = append(list, up(n+1, n, n%200, fmt.Sprint(n)))
			want = append(want, with(n+1, strings.Repeat("\x00", n%200)+fmt.Sprint(n)))
		}
		wantPages(t, "each its own", list, 0, empties(count), want...)
		slices.Reverse(list)
		wantPages(t, "each its own, from the last one on", list, 0, empties(count), want...)
	}
}

func TestOtherKinds(t *testing.T) {
	kinds := append(wild(), api.RCommit, api.REnd, api.RBegin, api.RTables, 7, 8, -1, 256+1, 256+2, 1<<32+1, 1<<32+2, 1<<16+1)
	for _, kind := range kinds {
		if kind == 1 || kind == 2 {
			continue
		}
		x := up(10, 0, 0, "x")
		x.R.Kind, x.R.Begin = kind, 5
		x.R.Txns, x.R.Pages = []api.TxnRow{{Txn: 1, First: 2, Last: 3}}, []api.PageRow{{Page: 0, Rec: 10}}
		wantPages(t, "another kind", []api.Entry{x}, 0, empties(1), noughts())
		wantOne(t, "another kind", []api.Entry{x}, 0, noughts())
		// It doesn't count as one that the page has, either.
		wantPages(t, "another kind, and a change below", []api.Entry{x, up(9, 0, 1, "y")}, 0, empties(1), with(9, "\x00y"))
		wantOne(t, "another kind, and a change below", []api.Entry{x, up(9, 0, 1, "y")}, 0, with(9, "\x00y"))
	}
}

func TestTextsAtTheEndOfAPage(t *testing.T) {
	whole := numbered(0).Data
	for _, x := range []struct {
		off  int
		text string
		done bool
	}{
		{219, "x", true}, {204, "sixteen bytes ..", true}, {220, "", true}, {0, "", true}, {110, "", true}, {0, whole, true}, {1, whole[1:], true},
		{220, "x", false}, {219, "xy", false}, {205, "sixteen bytes ..", false}, {221, "", false}, {1, whole, false}, {0, whole + "x", false},
		{-1, "x", false}, {-1, "", false}, {-1, "xy", false}, {-220, "x", false}, {math.MaxInt, "x", false}, {math.MaxInt, "", false}, {math.MinInt, "x", false}, {1 << 32, "x", false}, {256, "x", false},
	} {
		for _, f := range []func(at, page, off int, after string) api.Entry{up, un} {
			list := []api.Entry{f(10, 0, x.off, x.text), f(9, 1, 0, "-"), f(10, 1, x.off, x.text)}
			want, second := noughts(), with(9, "-")
			if x.done {
				b := []byte(want.Data)
				copy(b[x.off:], x.text)
				want = api.Page{At: 10, Data: string(b)}
				b[0] = max(b[0], '-')
				if x.off == 0 && x.text != "" {
					b[0] = x.text[0]
				}
				second = api.Page{At: 10, Data: string(b)}
			}
			wantPages(t, fmt.Sprintf("%d bytes at %d", len(x.text), x.off), list, 0, empties(2), want, second)
			wantOne(t, fmt.Sprintf("%d bytes at %d", len(x.text), x.off), list, 0, want)
			wantOne(t, fmt.Sprintf("%d bytes at %d", len(x.text), x.off), list, 1, second)
		}
	}
}

// What reaches over the end leaves the page without its place: a later one isn't taken for one that the page has.
func TestBehindOneThatDoesNotFit(t *testing.T) {
	list := []api.Entry{up(50, 0, 219, "xy"), up(40, 0, 0, "a")}
	wantPages(t, "the first doesn't fit", list, 0, empties(1), with(40, "a"))
	wantOne(t, "the first doesn't fit", list, 0, with(40, "a"))
}

// An empty text leaves the bytes, but the page has the record.
func TestAnEmptyTextCounts(t *testing.T) {
	list := []api.Entry{up(50, 0, 0, ""), up(50, 0, 0, "a"), up(40, 0, 0, "b")}
	wantPages(t, "an empty text", list, 0, []api.Page{numbered(49)}, numbered(50))
	wantOne(t, "an empty text", list, 0, with(50, ""))
}

func TestAnyBytes(t *testing.T) {
	for b := range 256 {
		s := string([]byte{byte(b), byte(255 - b)})
		wantPages(t, "any bytes", []api.Entry{up(7, 0, 0, s)}, 0, []api.Page{numbered(3)}, api.Page{At: 7, Data: s + numbered(0).Data[2:]})
	}
	for _, s := range []string{"\xff\xfe", "\xe2\x82", "ä€", "\x80"} {
		wantOne(t, "any bytes", []api.Entry{up(7, 3, 0, s)}, 3, with(7, s))
	}
}

// Places that don't rise are nobody's error: each entry is asked for its own place.
func TestPlacesThatDoNotRise(t *testing.T) {
	list := []api.Entry{up(200, 0, 0, "a"), up(100, 1, 0, "b"), up(100, 0, 1, "c"), up(200, 0, 2, "d"), up(300, 1, 1, "e"), up(150, 2, 0, "f")}
	a, b := with(200, "a"), with(300, "be")
	wantPages(t, "all", list, 0, empties(3), a, b, with(150, "f"))
	wantPages(t, "just at the least", list, 100, empties(3), a, b, with(150, "f"))
	wantPages(t, "the least aren't", list, 101, empties(3), a, with(300, "\x00e"), with(150, "f"))
	wantPages(t, "nor the last one", list, 151, empties(3), a, with(300, "\x00e"), noughts())
	wantPages(t, "just one", list, 201, empties(3), noughts(), with(300, "\x00e"), noughts())
	slices.Reverse(list)
	wantPages(t, "the other way round", list, 0, empties(3), with(200, "\x00\x00d"), with(300, "\x00e"), with(150, "f"))
	twice := []api.Entry{up(100, 0, 0, "a"), up(100, 0, 0, "b")}
	wantPages(t, "one place, two records", twice, 0, empties(1), with(100, "a"))
	wantOne(t, "one place, two records", twice, 0, with(100, "a"))
	fall := []api.Entry{up(2, 0, 0, "a"), up(1, 0, 1, "b"), up(3, 0, 2, "c")}
	wantOne(t, "one that falls", fall, 0, with(3, "a\x00c"))
	wantPages(t, "one that falls", fall, 0, empties(1), with(3, "a\x00c"))
}

// A page that isn't right stays as it is; the others come to their own.
func TestPagesThatAreNotRight(t *testing.T) {
	data := noughts().Data
	for _, p := range []api.Page{{}, {At: 1}, {At: -1, Data: data}, {At: math.MinInt, Data: data}, {At: 1 << 31, Data: data}, {At: math.MaxInt, Data: data}, {Data: data[1:]}, {Data: data + "\x00"}, {Data: "a"}, {At: -1, Data: "a"}, {Data: strings.Repeat("a", 1<<16)}} {
		for _, off := range []int{0, 1, 219} {
			list := []api.Entry{up(10, 0, off, "x"), up(20, 1, off, "x"), up(30, 2, off, "x")}
			for n := range 3 {
				pages, want := empties(3), plainPages(list, 0, empties(3))
				pages[n], want[n] = p, p
				wantPages(t, "one isn't right", list, 0, pages, want...)
			}
		}
	}
}

// Each page that isn't right is copied once, and not for each entry: a long list over a long text would never end.
func TestALongTextIsCopiedOnce(t *testing.T) {
	var list []api.Entry
	for at := range 1000 {
		list = append(list, up(at, 0, 0, "x"))
	}
	pages := []api.Page{{Data: strings.Repeat("a", 1<<20)}}
	if n := testing.AllocsPerRun(1, func() { redo.Pages(list, 0, pages) }); n > 10 {
		t.Errorf("%v times", n)
	}
}

// P14.1: One.

func TestOneOfAnyNumber(t *testing.T) {
	for _, n := range wild() {
		list := []api.Entry{up(5, n, 0, "a"), un(9, n, 1, "b"), up(12, n^1, 0, "c")}
		wantOne(t, "its own", list, n, with(9, "ab"))
		wantOne(t, "the other's", list, n^1, with(12, "c"))
		wantOne(t, "nobody's", list, n^2, noughts())
		wantOne(t, "of no entries", nil, n, noughts())
		wantOne(t, "of no entries", []api.Entry{}, n, noughts())
		wantOne(t, "of an entry of noughts", []api.Entry{{}}, n, noughts())
		for _, m := range wild() {
			if m != n && m != n^1 {
				wantOne(t, "nobody's", list, m, noughts())
			}
		}
	}
	if p := redo.One(nil, 0); p != page.Empty() {
		t.Errorf("not page.Empty, but%s", told([]api.Page{p}))
	}
}

// One is what Pages makes of noughts from the beginning on.
func TestOneIsThatOfPages(t *testing.T) {
	for seed := range 300 {
		d := dice(seed)
		list := thrownList(&d, 30)
		for n, p := range redo.Pages(list, math.MinInt, empties(9)) {
			if q := redo.One(list, n); q != p {
				t.Fatalf("One of %d of%s:%s\nnot%s", n, shown(list), told([]api.Page{q}), told([]api.Page{p}))
			}
		}
	}
}

// P14.1: Same.

func TestSame(t *testing.T) {
	lists := [][]api.Page{
		nil,
		{noughts()}, {with(1, "")}, {with(0, "a")}, {numbered(0)}, {{}}, {{At: 1}}, {{At: -1}}, {{Data: "a"}}, {{At: 1<<32 + 1}},
		{noughts(), noughts()}, {with(1, ""), noughts()}, {noughts(), with(1, "")}, {with(0, "a"), noughts()}, {noughts(), with(0, "a")}, {{}, {}},
		{noughts(), noughts(), noughts()}, {noughts(), noughts(), with(1, "")}, {numbered(3), numbered(2), numbered(1)}, {numbered(1), numbered(2), numbered(3)}, {numbered(1), numbered(2)}, {numbered(2), numbered(3)}, empties(8), empties(9), empties(300),
	}
	for i, a := range lists {
		for k, b := range lists {
			c := make([]api.Page, len(b))
			for n, p := range b {
				c[n] = api.Page{At: p.At, Data: strings.Clone(p.Data)}
			}
			wantSame(t, a, c, i == k)
		}
	}
	wantSame(t, nil, []api.Page{}, true)
	wantSame(t, []api.Page{}, []api.Page{}, true)
	wantSame(t, nil, nil, true)
}

func TestSameAsksEachPlaceAndEachByte(t *testing.T) {
	for n := range 4 {
		a := []api.Page{numbered(1), numbered(2), numbered(3), numbered(4)}
		for i := range 220 {
			b := slices.Clone(a)
			c := []byte(b[n].Data)
			c[i] ^= 1
			b[n].Data = string(c)
			wantSame(t, a, b, false)
		}
		for _, at := range wild() {
			b := slices.Clone(a)
			b[n].At = at
			wantSame(t, a, b, at == a[n].At)
		}
		for _, s := range []string{"", a[n].Data[:219], a[n].Data[1:], a[n].Data + "\x00"} {
			b := slices.Clone(a)
			b[n].Data = s
			wantSame(t, a, b, false)
		}
	}
}

// P14.2

// own is a list of changes of some pages in turns, count of each; no two reach the same byte of a page, so that each is to be seen.
func own(pages, count int) (list []api.Entry) {
	for k := range count {
		for n := range pages {
			f := []func(at, page, off int, after string) api.Entry{up, un}[(n+k)%2]
			list = append(list, f(10+10*len(list), n, 3*k, fmt.Sprint(n, k)))
		}
	}
	return list
}

// begun is the page behind a beginning of its own changes, from whatever it was ahead of them.
func begun(list []api.Entry, n, count int, p api.Page) api.Page {
	changes := counting(list, math.MinInt, n, p.At)
	return plainPage(changes[:count], math.MinInt, n, p)
}

// lacked is the first place that any page lacks; ok is false, if none lacks any.
func lacked(list []api.Entry, pages []api.Page) (at int, ok bool) {
	for n, p := range pages {
		if rest := counting(list, math.MinInt, n, p.At); len(rest) > 0 && (!ok || rest[0].At < at) {
			at, ok = rest[0].At, true
		}
	}
	return at, ok
}

// redoneWholly holds redo from each place that isn't above the first one that is lacked; from above it, that one isn't there.
func redoneWholly(t *testing.T, list []api.Entry, pages, all []api.Page) {
	t.Helper()
	first, ok := lacked(list, pages)
	for _, from := range append(around(list), wild()...) {
		got := redo.Pages(list, from, pages)
		if !ok || from <= first {
			if !redo.Same(got, all) || !plainSame(got, all) {
				t.Fatalf("from %d on, where %d is lacked, on%s\nof%s:%s\nnot%s", from, first, told(pages), shown(list), told(got), told(all))
			}
		} else if redo.Same(got, all) {
			t.Fatalf("from %d on, where %d is lacked, on%s\nof%s: all of it", from, first, told(pages), shown(list))
		}
	}
}

func TestEachPageWithEachBeginning(t *testing.T) {
	list := own(3, 4)
	for _, bases := range [][]api.Page{empties(3), {numbered(9), numbered(0), noughts()}} {
		var all []api.Page
		for n, p := range bases {
			all = append(all, begun(list, n, 4, p))
		}
		for k := range 125 {
			pages := []api.Page{begun(list, 0, k%5, bases[0]), begun(list, 1, k/5%5, bases[1]), begun(list, 2, k/25, bases[2])}
			redoneWholly(t, list, pages, all)
		}
	}
}

// Changes over each other, ones that don't fit, records of other pages and kinds between them.
func TestThrownBeginnings(t *testing.T) {
	behind := 0
	for seed := range 500 {
		d := dice(seed)
		var list []api.Entry
		at := 0
		for range 5 + d.below(40) {
			at += 1 + d.below(9)
			list = append(list, thrownEntry(&d, at))
		}
		var pages, all []api.Page
		for n := range 4 {
			base := api.Page{Data: d.text(220)}
			count := len(counting(list, 0, n, 0))
			pages = append(pages, begun(list, n, d.below(1+count), base))
			all = append(all, begun(list, n, count, base))
		}
		first, ok := lacked(list, pages)
		for _, from := range around(list) {
			if ok && from > first {
				continue
			}
			behind++
			if got := redo.Pages(list, from, pages); !plainSame(got, all) {
				t.Fatalf("from %d on, on%s\nof%s:%s\nnot%s", from, told(pages), shown(list), told(got), told(all))
			}
		}
	}
	if behind < 5000 {
		t.Errorf("%d times only", behind)
	}
}

// In whatever way a page came to be what it is (put together by One, by Pages, from a store), the rest is the same.
func TestABeginningIsOneHoweverItCame(t *testing.T) {
	list := own(2, 5)
	all := []api.Page{redo.One(list, 0), redo.One(list, 1)}
	for i := range len(list) + 1 {
		for k := range len(list) + 1 {
			pages := []api.Page{redo.One(list[:i], 0), redo.Pages(list[:k], 0, empties(2))[1]}
			redoneWholly(t, list, pages, all)
		}
	}
}

// P14.3

func TestRedoOfWhatWasRedone(t *testing.T) {
	for seed := range 200 {
		d := dice(seed)
		list := thrownList(&d, 1+seed%30)
		pages := thrownPages(&d, list, 5)
		for _, from := range around(list) {
			once := redo.Pages(list, from, pages)
			for _, later := range []int{from, from + d.below(20), math.MaxInt} {
				if twice := redo.Pages(list, max(from, later), once); !redo.Same(twice, once) || !plainSame(twice, once) {
					t.Fatalf("from %d, then from %d on, on%s\nof%s:%s\nnot%s", from, later, told(pages), shown(list), told(twice), told(once))
				}
			}
			// The power went amid it: a beginning was done, all is done.
			amid := redo.Pages(list[:d.below(1+len(list))], from, pages)
			if again := redo.Pages(list, from, amid); !plainSame(again, once) {
				t.Fatalf("from %d on, amid it, then again, on%s\nof%s:%s\nnot%s", from, told(pages), shown(list), told(again), told(once))
			}
		}
	}
}

// Entry by entry, each one twice, and each time all that is ahead of it: it comes to the same.
func TestRedoOfEachEntryAgain(t *testing.T) {
	for seed := range 100 {
		d := dice(seed)
		list := thrownList(&d, 30)
		pages := thrownPages(&d, list, 5)
		once := redo.Pages(list, math.MinInt, pages)
		again := pages
		for i := range list {
			again = redo.Pages(list[i:i+1], math.MinInt, again)
			again = redo.Pages(list[i:i+1], list[i].At, again)
			again = redo.Pages(list[:i+1], math.MinInt, again)
		}
		if !plainSame(again, once) {
			t.Fatalf("on%s\nof%s:%s\nnot%s", told(pages), shown(list), told(again), told(once))
		}
	}
}

// The rules that hold everywhere.

// wholly is a list of pages, its spare room too, with memory of its own.
func wholly(pages []api.Page) []api.Page {
	c := slices.Clone(pages[:cap(pages)])
	for i := range c {
		c[i].Data = strings.Clone(c[i].Data)
	}
	return c
}

// entriesOf is a list of entries, its spare room too, as a text.
func entriesOf(list []api.Entry) string {
	return shown(list[:cap(list)])
}

func TestWhatIsHandedInStaysAsItIs(t *testing.T) {
	for seed := range 200 {
		d := dice(seed)
		list := append(thrownList(&d, 12), up(1, 0, 0, "spare"), up(1<<20, 1, 0, "spare"))
		pages := append(thrownPages(&d, list, 4), numbered(3), noughts())
		wasList, wasPages := entriesOf(list), wholly(pages)
		for _, from := range around(list) {
			redo.Pages(list[:12], from, pages[:4])
			redo.Same(pages[:4], pages[2:])
			redo.One(list[:12], seed%5)
		}
		if entriesOf(list) != wasList || !plainSame(wholly(pages), wasPages) {
			t.Fatalf("the pages were%s\nand are%s\nthe list was%s\nand is%s", told(wasPages), told(wholly(pages)), wasList, entriesOf(list))
		}
	}
}

// sharesAny tells whether a page lies in the memory of a list, of pages, or of an entry.
func sharesAny(p api.Page, list []api.Entry, pages []api.Page) bool {
	for _, q := range pages {
		if shares(p.Data, q.Data) {
			return true
		}
	}
	for _, x := range list {
		if shares(p.Data, x.R.After) || shares(p.Data, x.R.Before) {
			return true
		}
	}
	return false
}

func TestAnswersAreNewMemory(t *testing.T) {
	list := []api.Entry{up(10, 0, 0, "a"), up(20, 1, 0, numbered(0).Data), up(30, 5, 0, "a")}
	pages := []api.Page{noughts(), noughts(), noughts(), numbered(99), {At: -1, Data: "wrong"}} // changed, wholly changed, as it was, never a record's, no page
	pages = append(pages, pages[2], api.Page{Data: strings.Repeat("longer", 99)[7:227]})
	for _, from := range []int{0, 20, 99} {
		got := redo.Pages(list, from, pages)
		for n, p := range got {
			if sharesAny(p, list, pages) || sharesAny(p, nil, got[:n]) {
				t.Errorf("the page %d, from %d on, shares memory", n, from)
			}
		}
		want := plainPages(list, from, pages)
		other := redo.Pages(list, from, pages)
		for i := range got[:cap(got)] {
			got[:cap(got)][i] = api.Page{At: -7, Data: "gone"}
		}
		if !plainSame(other, want) || !plainSame(redo.Pages(list, from, pages), want) {
			t.Errorf("from %d on: a change of one answer is to be seen in another", from)
		}
		kept := slices.Clone(pages) // nor is the list kept that was handed in
		for i := range pages {
			pages[i] = api.Page{At: 5, Data: "gone"}
		}
		if !plainSame(other, want) {
			t.Errorf("from %d on: a change of the list is to be seen in the answer", from)
		}
		copy(pages, kept)
	}
	for n := range 7 {
		if p := redo.One(list, n); sharesAny(p, list, pages) || shares(p.Data, redo.One(list, n).Data) || shares(p.Data, page.Empty().Data) {
			t.Errorf("One of %d shares memory", n)
		}
	}
}

func TestTheSameIsAnsweredEachTime(t *testing.T) {
	d := dice(3)
	list := thrownList(&d, 40)
	pages := thrownPages(&d, list, 5)
	want, one := redo.Pages(list, 0, pages), redo.One(list, 1)
	for range 20 {
		redo.Pages(list[20:], 5, want)
		redo.One(list[:20], 2)
		if got := redo.Pages(list, 0, pages); !redo.Same(got, want) || redo.One(list, 1) != one {
			t.Fatalf("another answer:%s\nnot%s", told(got), told(want))
		}
	}
}
