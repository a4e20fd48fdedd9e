package redo_test

import (
	"fmt"
	"math"
	"slices"
	"strings"
	"testing"
	"unsafe"

	"careen/api"
	"careen/redo"
)

// Redo as the document tells it, byte by byte: of a page each byte is that of the last record that counts and reaches it, and the place is that of the last record that counts.

const maxNum = 1<<31 - 1

func isRight(p api.Page) bool {
	return p.At >= 0 && p.At <= maxNum && len(p.Data) == 220
}

// mayCount tells whether an entry could change a page that is right and lacks it.
func mayCount(x api.Entry) bool {
	fits := x.R.Off >= 0 && x.R.Off <= 220 && len(x.R.After) <= 220-x.R.Off
	return (x.R.Kind == 1 || x.R.Kind == 2) && x.At <= maxNum && fits
}

// counting is the entries from a place on that change the page of a number, whose place is at: each is above all those ahead of it that do.
func counting(list []api.Entry, from, n, at int) (own []api.Entry) {
	for _, x := range list {
		if x.R.Page == n && x.At >= from && x.At > at && mayCount(x) {
			own, at = append(own, x), x.At
		}
	}
	return own
}

func plainPage(list []api.Entry, from, n int, p api.Page) api.Page {
	own := counting(list, from, n, p.At)
	if !isRight(p) || len(own) == 0 {
		return p
	}
	var s strings.Builder
	for i := range 220 {
		b := p.Data[i]
		for _, x := range slices.Backward(own) {
			if i >= x.R.Off && i < x.R.Off+len(x.R.After) {
				b = x.R.After[i-x.R.Off]
				break
			}
		}
		s.WriteByte(b)
	}
	return api.Page{At: own[len(own)-1].At, Data: s.String()}
}

func plainPages(list []api.Entry, from int, pages []api.Page) (all []api.Page) {
	for n, p := range pages {
		all = append(all, plainPage(list, from, n, p))
	}
	return all
}

func plainOne(list []api.Entry, n int) api.Page {
	return plainPage(list, math.MinInt, n, noughts())
}

func plainSame(a, b []api.Page) bool {
	if len(a) != len(b) {
		return false
	}
	for i := range a {
		if a[i].At != b[i].At || a[i].Data != b[i].Data {
			return false
		}
	}
	return true
}

// alike holds Pages against the plain one, and answers what it told.
func alike(t *testing.T, list []api.Entry, from int, pages []api.Page) []api.Page {
	t.Helper()
	got, want := redo.Pages(list, from, pages), plainPages(list, from, pages)
	if !plainSame(got, want) {
		t.Fatalf("from %d on, on%s\n of%s:%s\nnot%s", from, told(pages), shown(list), told(got), told(want))
	}
	return got
}

// alikeAll holds Pages against the plain one from each place of a list on, and from each next to one.
func alikeAll(t *testing.T, list []api.Entry, pages []api.Page) {
	t.Helper()
	for _, from := range around(list) {
		alike(t, list, from, pages)
	}
}

// alikeOne holds One against the plain one, and answers what it told.
func alikeOne(t *testing.T, list []api.Entry, n int) api.Page {
	t.Helper()
	got, want := redo.One(list, n), plainOne(list, n)
	if got != want {
		t.Fatalf("One of %d of%s:%s\nnot%s", n, shown(list), told([]api.Page{got}), told([]api.Page{want}))
	}
	return got
}

// wantPages holds what Pages tells against what is written out.
func wantPages(t *testing.T, what string, list []api.Entry, from int, pages []api.Page, want ...api.Page) {
	t.Helper()
	if got := alike(t, list, from, pages); !plainSame(got, want) {
		t.Fatalf("%s: from %d on, on%s\nof%s:%s\nnot%s", what, from, told(pages), shown(list), told(got), told(want))
	}
}

func wantOne(t *testing.T, what string, list []api.Entry, n int, want api.Page) {
	t.Helper()
	if got := alikeOne(t, list, n); got != want {
		t.Fatalf("%s: One of %d of%s:%s\nnot%s", what, n, shown(list), told([]api.Page{got}), told([]api.Page{want}))
	}
}

func wantSame(t *testing.T, a, b []api.Page, want bool) {
	t.Helper()
	if plainSame(a, b) != want || redo.Same(a, b) != want || redo.Same(b, a) != want {
		t.Fatalf("Same:%s\nand%s: %v, the other way round %v, not %v", told(a), told(b), redo.Same(a, b), redo.Same(b, a), want)
	}
}

// around is each place of a list, and those next to it, the least and the greatest numbers, and 0, each once.
func around(list []api.Entry) []int {
	all := []int{math.MinInt, -1, 0, 1, math.MaxInt}
	for _, x := range list {
		all = append(all, x.At-1, x.At, x.At+1)
	}
	slices.Sort(all)
	return slices.Compact(all)
}

// Records at places, and pages, in short.

func up(at, page, off int, after string) api.Entry {
	return api.Entry{At: at, R: api.Rec{Kind: api.RUpdate, Txn: 1, Page: page, Off: off, Before: strings.Repeat("?", len(after)), After: after}}
}

func un(at, page, off int, after string) api.Entry {
	return api.Entry{At: at, R: api.Rec{Kind: api.RUndo, Txn: 1, Page: page, Off: off, After: after, Prev: 3, Next: 2}}
}

func noughts() api.Page {
	return api.Page{Data: strings.Repeat("\x00", 220)}
}

// empties is n pages of noughts.
func empties(n int) (all []api.Page) {
	for range n {
		all = append(all, noughts())
	}
	return all
}

// with is a page of noughts with a place, and with some bytes in front.
func with(at int, front string) api.Page {
	return api.Page{At: at, Data: front + strings.Repeat("\x00", 220-len(front))}
}

// numbered is a page in which no two bytes are the same.
func numbered(at int) api.Page {
	b := make([]byte, 220)
	for i := range b {
		b[i] = byte(7 + i)
	}
	return api.Page{At: at, Data: string(b)}
}

// told is pages as one reads them where a test fails: without the noughts at the end.
func told(pages []api.Page) string {
	s := ""
	for n, p := range pages {
		s += fmt.Sprintf("\n %d: {%d %d %q}", n, p.At, len(p.Data), strings.TrimRight(p.Data, "\x00"))
	}
	return s
}

// shown is a list as one reads it where a test fails.
func shown(list []api.Entry) string {
	s := ""
	for _, x := range list {
		s += fmt.Sprintf("\n %d: %#v", x.At, x.R)
	}
	return s
}

// shares tells whether two texts lie in the same memory, in part.
func shares(a, b string) bool {
	if a == "" || b == "" {
		return false
	}
	from, to := uintptr(unsafe.Pointer(unsafe.StringData(a))), uintptr(unsafe.Pointer(unsafe.StringData(b)))
	return from < to+uintptr(len(b)) && to < from+uintptr(len(a))
}

// wild is numbers of all sizes, the least and the greatest ones too, rising.
func wild() []int {
	return []int{math.MinInt, math.MinInt + 1, -1 << 40, -1 << 32, -1 << 31, -257, -2, -1, 0, 1, 2, 5, 255, 256, 257, 1<<31 - 1, 1 << 31, 1 << 32, 1<<32 + 1, 1 << 40, math.MaxInt - 1, math.MaxInt}
}

// dice is numbers that look thrown, the same ones each time.
type dice uint64

func (d *dice) below(n int) int {
	*d = *d*6364136223846793005 + 1442695040888963407
	return int(uint64(*d) >> 33 % uint64(n))
}

// one is one of some numbers.
func (d *dice) one(n ...int) int {
	return n[d.below(len(n))]
}

// text is some bytes, none of them 0.
func (d *dice) text(n int) string {
	b := make([]byte, n)
	for i := range b {
		b[i] = byte(1 + d.below(255))
	}
	return string(b)
}
