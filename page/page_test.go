package page_test

import (
	"encoding/binary"
	"fmt"
	"math"
	"math/big"
	"strings"
	"testing"
	"unsafe"

	"careen/api"
	"careen/page"
)

const maxNum = 1<<31 - 1

// bytesFrom is n bytes that run on from the first one, round behind 255.
func bytesFrom(first, n int) string {
	b := make([]byte, n)
	for i := range b {
		b[i] = byte(first + i)
	}
	return string(b)
}

// numbered is a page in which no two bytes are the same.
func numbered(at int) api.Page {
	return api.Page{At: at, Data: bytesFrom(7, 220)}
}

func noughts(at int) api.Page {
	return api.Page{At: at, Data: strings.Repeat("\x00", 220)}
}

// rightPages are ordinary ones, and the edges that the document names.
func rightPages() []api.Page {
	list := []api.Page{noughts(0), noughts(1), noughts(maxNum)}
	for _, at := range places() {
		list = append(list, numbered(at))
	}
	return append(list, api.Page{At: 300, Data: strings.Repeat("\xff", 220)})
}

// places are numbers that may be a page's At.
func places() []int {
	return []int{0, 1, 2, 127, 128, 255, 256, 1 << 16, 0x01020304, 1 << 24, 0x7F000000, maxNum - 1, maxNum}
}

// noPlaces are numbers that may not.
func noPlaces() []int {
	return []int{-1, -2, -128, -maxNum, -1 << 31, 1 << 31, 1<<31 + 1, 1<<32 - 1, 1 << 32, 1<<32 + 7, math.MinInt, math.MinInt + 7, math.MaxInt}
}

// wrongPages are pages that aren't right, by their At, by their Data, and by both.
func wrongPages() []api.Page {
	list := []api.Page{{}, {At: -1}}
	for _, at := range noPlaces() {
		list = append(list, numbered(at))
	}
	for _, n := range []int{0, 1, 112, 218, 219, 221, 222, 224, 440, 1 << 16} {
		list = append(list, api.Page{At: 7, Data: bytesFrom(3, n)}, api.Page{At: -1, Data: bytesFrom(3, n)})
	}
	return list
}

// ints are numbers from which offs and lengths are made: all that a page has, and far beyond at both ends.
func ints() []int {
	list := []int{math.MinInt, math.MinInt + 1, math.MinInt + 220, -1 << 32, -1 << 31, -221, -220, -219, -2}
	for n := -1; n <= 222; n++ {
		list = append(list, n)
	}
	return append(list, 255, 256, 257, 476, 1<<31, 1<<32, 1<<32+3, math.MaxInt-220, math.MaxInt-219, math.MaxInt-1, math.MaxInt)
}

// told is a page as a line of plain signs.
func told(p api.Page) string {
	return fmt.Sprintf("{%d %d*%q}", p.At, len(p.Data), p.Data)
}

// inside tells whether n bytes from off on are a page's, by a sum that has no bound.
func inside(off, n int) bool {
	end := new(big.Int).Add(big.NewInt(int64(off)), big.NewInt(int64(n)))
	return off >= 0 && n >= 0 && end.Cmp(big.NewInt(220)) <= 0
}

func isRight(p api.Page) bool {
	return p.At >= 0 && p.At <= maxNum && len(p.Data) == 220
}

// plainPut is Put by the document's words, without the package's own code.
func plainPut(p api.Page, off int, s string, at int) (api.Page, api.Errno) {
	switch {
	case !isRight(p):
		return api.Page{}, api.ErrForm
	case at < 0 || at > maxNum:
		return api.Page{}, api.ErrArg
	case !inside(off, len(s)):
		return api.Page{}, api.ErrRange
	}
	return api.Page{At: at, Data: p.Data[:off] + s + p.Data[off+len(s):]}, api.OK
}

func plainApply(p api.Page, at int, r api.Rec) api.Page {
	q, e := plainPut(p, r.Off, r.After, at)
	if e != api.OK || at <= p.At || r.Kind != 1 && r.Kind != 2 {
		return p
	}
	return q
}

// copied is a page whose bytes nobody else has.
func copied(p api.Page) api.Page {
	return api.Page{At: p.At, Data: strings.Clone(p.Data)}
}

// shares tells whether two texts lie in the same memory, in part.
func shares(a, b string) bool {
	if a == "" || b == "" {
		return false
	}
	from, to := uintptr(unsafe.Pointer(unsafe.StringData(a))), uintptr(unsafe.Pointer(unsafe.StringData(b)))
	return from < to+uintptr(len(b)) && to < from+uintptr(len(a))
}

// putAsSaid holds Put against the document's words, and answers the page.
func putAsSaid(t *testing.T, p api.Page, off int, s string, at int) api.Page {
	t.Helper()
	was, text := copied(p), strings.Clone(s)
	got, e := page.Put(p, off, s, at)
	if want, err := plainPut(was, off, text, at); e != err || got != want {
		t.Fatalf("Put(%s, %d, %q, %d): %s, %d, not %s, %d", told(was), off, text, at, told(got), e, told(want), err)
	}
	if p != was || s != text || shares(got.Data, p.Data) || shares(got.Data, s) {
		t.Fatalf("Put(%s, %d, %q, %d) changed or kept what it was given", told(was), off, text, at)
	}
	return got
}

func wantPutRefused(t *testing.T, p api.Page, off int, s string, at int, want api.Errno) {
	t.Helper()
	was := copied(p)
	if got, e := page.Put(p, off, s, at); e != want || got != (api.Page{}) {
		t.Errorf("Put(%s, %d, %d bytes, %d): %s, %d, not %d", told(was), off, len(s), at, told(got), e, want)
	}
	if p != was {
		t.Errorf("Put changed the page %s", told(was))
	}
}

func wantGet(t *testing.T, p api.Page, off, n int, want string) {
	t.Helper()
	was := copied(p)
	got, e := page.Get(p, off, n)
	if e != api.OK || got != want {
		t.Fatalf("Get(%s, %d, %d): %q, %d, not %q", told(was), off, n, got, e, want)
	}
	if p != was || shares(got, p.Data) {
		t.Fatalf("Get(%s, %d, %d) changed or kept the page", told(was), off, n)
	}
}

func wantGetRefused(t *testing.T, p api.Page, off, n int, want api.Errno) {
	t.Helper()
	was := copied(p)
	if got, e := page.Get(p, off, n); e != want || got != "" {
		t.Errorf("Get(%s, %d, %d): %q, %d, not %d", told(was), off, n, got, e, want)
	}
	if p != was {
		t.Errorf("Get changed the page %s", told(was))
	}
}

func wantPack(t *testing.T, p api.Page, want string) {
	t.Helper()
	was := copied(p)
	got, e := page.Pack(p)
	if e != api.OK || got != want {
		t.Fatalf("Pack(%s): %q, %d, not %q", told(was), got, e, want)
	}
	if p != was || shares(got, p.Data) {
		t.Fatalf("Pack(%s) changed or kept the page", told(was))
	}
}

func wantUnpack(t *testing.T, s string, want api.Page) {
	t.Helper()
	was := strings.Clone(s)
	got, e := page.Unpack(s)
	if e != api.OK || got != want {
		t.Fatalf("Unpack(%q): %s, %d, not %s", was, told(got), e, told(want))
	}
	if s != was || shares(got.Data, s) {
		t.Fatalf("Unpack(%q) changed or kept the text", was)
	}
}

func wantNotUnpacked(t *testing.T, what, s string) {
	t.Helper()
	if got, e := page.Unpack(s); e != api.ErrForm || got != (api.Page{}) {
		t.Errorf("%s: Unpack of %d bytes: %s, %d, not ErrForm", what, len(s), told(got), e)
	}
}

// wantApply holds what comes of Apply, and that it leaves alone what it was given.
func wantApply(t *testing.T, p api.Page, at int, r api.Rec, want api.Page) {
	t.Helper()
	was, after := copied(p), strings.Clone(r.After)
	got := page.Apply(p, at, r)
	if got != want {
		t.Fatalf("Apply(%s, %d, %#v): %s, not %s", told(was), at, r, told(got), told(want))
	}
	if p != was || r.After != after || shares(got.Data, p.Data) || shares(got.Data, r.After) {
		t.Fatalf("Apply(%s, %d, %#v) changed or kept what it was given", told(was), at, r)
	}
}

func update(off int, before, after string) api.Rec {
	return api.Rec{Kind: api.RUpdate, Txn: 1, Off: off, Before: before, After: after}
}

func undo(off int, after string) api.Rec {
	return api.Rec{Kind: api.RUndo, Txn: 1, Prev: 3, Next: 2, Off: off, After: after}
}

// dice is a row of numbers that look like any ones, the same at each run.
type dice uint64

func (x *dice) below(n int) int {
	*x ^= *x << 13
	*x ^= *x >> 7
	*x ^= *x << 17
	return int(uint64(*x) >> 33 % uint64(n))
}

// piece is a text of up to most bytes, and a place where a page has room for it.
func (x *dice) piece(most int) (off int, s string) {
	s = bytesFrom(x.below(256), x.below(most+1))
	return x.below(220 - len(s) + 1), s
}

// The chapter's examples.

func TestExamples(t *testing.T) {
	p, e := page.Put(page.Empty(), 3, "ab", 7)
	want := api.Page{At: 7, Data: "\x00\x00\x00ab" + strings.Repeat("\x00", 215)}
	if e != api.OK || p != want {
		t.Fatalf("Put: %s, %d, not %s", told(p), e, told(want))
	}
	wantApply(t, p, 7, update(3, "ab", "cd"), p)
}

// P6.1

func TestEmptyIsNoughtsWithoutRecords(t *testing.T) {
	for range 2 {
		p := page.Empty()
		if p != noughts(0) || !page.Right(p) {
			t.Fatalf("Empty: %s, right: %v", told(p), page.Right(p))
		}
		putAsSaid(t, p, 0, "not for the next one", 9)
	}
}

func TestRightByThePlace(t *testing.T) {
	for _, at := range places() {
		if !page.Right(numbered(at)) || !page.Right(noughts(at)) {
			t.Errorf("a page with the place %d isn't right", at)
		}
	}
	for _, at := range noPlaces() {
		if page.Right(numbered(at)) || page.Right(noughts(at)) {
			t.Errorf("a page with the place %d is right", at)
		}
	}
}

func TestRightByTheBytes(t *testing.T) {
	for n := range 700 {
		for _, at := range []int{0, 7, maxNum} {
			for _, data := range []string{bytesFrom(0, n), strings.Repeat("\x00", n)} {
				if page.Right(api.Page{At: at, Data: data}) != (n == 220) {
					t.Errorf("a page with the place %d and %d bytes: right: %v", at, n, n != 220)
				}
			}
		}
	}
	for _, p := range wrongPages() {
		if page.Right(p) {
			t.Errorf("%s is right", told(p))
		}
	}
}

func TestPutAtEachPlaceInEachLength(t *testing.T) {
	for off := range 221 {
		for n := range 221 - off {
			p := numbered(off + n)
			if q := putAsSaid(t, p, off, bytesFrom(100+off, n), n); q.At != n || !page.Right(q) {
				t.Fatalf("Put of %d bytes at %d: %s", n, off, told(q))
			}
		}
	}
}

func TestPutOfAnyBytes(t *testing.T) {
	for b := range 256 {
		putAsSaid(t, noughts(1), 9, string([]byte{byte(b)}), 2)
		putAsSaid(t, numbered(1), 220-16, strings.Repeat(string([]byte{byte(b)}), 16), 2)
	}
	for _, s := range []string{"\xff\xfe", "\xe2\x82", "ä€", strings.Repeat("\x00", 220), strings.Repeat("\xff", 220)} {
		putAsSaid(t, numbered(1), 0, s, 2)
	}
}

func TestPutSetsAnyPlaceThatMayBe(t *testing.T) {
	for _, p := range rightPages() {
		for _, at := range places() { // above the page's, the same, and below
			if q := putAsSaid(t, p, 5, "text", at); q.At != at {
				t.Errorf("Put of a place %d: %d", at, q.At)
			}
		}
	}
}

func TestPutOfAnEmptyTextSetsThePlaceAlone(t *testing.T) {
	for _, off := range []int{0, 1, 110, 219, 220} {
		if q := putAsSaid(t, numbered(3), off, "", 8); q != numbered(8) {
			t.Errorf("Put of no bytes at %d: %s", off, told(q))
		}
	}
	wantPutRefused(t, numbered(3), 221, "", 8, api.ErrRange)
	wantPutRefused(t, numbered(3), -1, "", 8, api.ErrRange)
}

func TestPutRefusesTextsThatEndBehindThePage(t *testing.T) {
	for off := range 221 {
		wantPutRefused(t, numbered(3), off, bytesFrom(0, 221-off), 8, api.ErrRange)
		wantPutRefused(t, numbered(3), off, bytesFrom(0, 222-off), 8, api.ErrRange)
	}
	for _, n := range []int{221, 255, 256, 257, 440, 1 << 16, 1 << 20} {
		for _, off := range []int{0, 1, 219, 220, -n, 220 - n, -1} {
			wantPutRefused(t, numbered(3), off, strings.Repeat("x", n), 8, api.ErrRange)
		}
	}
}

func TestPutAtAnyOff(t *testing.T) {
	for _, off := range ints() {
		for _, n := range []int{0, 1, 2, 16, 219, 220, 221} {
			s := bytesFrom(50, n)
			putAsSaid(t, numbered(3), off, s, 8)
			if off < 0 || off > 220 {
				wantPutRefused(t, numbered(3), off, s, 8, api.ErrRange)
			}
		}
	}
}

func TestPutRefusesWrongPages(t *testing.T) {
	for _, p := range wrongPages() {
		wantPutRefused(t, p, 3, "ab", 7, api.ErrForm)
		wantPutRefused(t, p, 0, "", 0, api.ErrForm)
	}
}

func TestPutRefusesWrongPlaces(t *testing.T) {
	for _, at := range noPlaces() {
		for _, p := range rightPages() {
			wantPutRefused(t, p, 3, "ab", at, api.ErrArg)
			wantPutRefused(t, p, 220, "", at, api.ErrArg)
		}
	}
}

func TestPutAnswersTheErrorThatComesFirst(t *testing.T) {
	offs := []int{-1, 219, 221, math.MinInt, math.MaxInt}
	for _, p := range wrongPages() {
		for _, at := range append(noPlaces(), 8) {
			for _, off := range offs {
				wantPutRefused(t, p, off, "ab", at, api.ErrForm)
			}
		}
	}
	for _, at := range noPlaces() {
		for _, off := range offs {
			wantPutRefused(t, numbered(3), off, "ab", at, api.ErrArg)
		}
	}
	for _, off := range offs {
		wantPutRefused(t, numbered(3), off, "ab", 8, api.ErrRange)
	}
}

func TestTextsAreThereUntilOthersLieOnThem(t *testing.T) {
	x := dice(5)
	for range 200 {
		p, plain := page.Empty(), make([]byte, 220)
		for step := range 40 {
			off, s := x.piece([]int{3, 16, 220}[x.below(3)])
			p = putAsSaid(t, p, off, s, step)
			copy(plain[off:], s)
			wantGet(t, p, off, len(s), s)
			wantGet(t, p, 0, 220, string(plain))
			from := x.below(221)
			to := from + x.below(221-from)
			wantGet(t, p, from, to-from, string(plain[from:to]))
		}
	}
}

func TestGetOfEachPlaceAndLength(t *testing.T) {
	for _, p := range []api.Page{numbered(0), numbered(maxNum)} {
		for _, off := range ints() {
			for _, n := range ints() {
				if inside(off, n) {
					wantGet(t, p, off, n, p.Data[off:off+n])
				} else {
					wantGetRefused(t, p, off, n, api.ErrRange)
				}
			}
		}
	}
}

func TestGetAtTheEdges(t *testing.T) {
	p := numbered(3)
	for _, off := range []int{0, 1, 219, 220} {
		wantGet(t, p, off, 0, "")
		wantGet(t, p, off, 220-off, p.Data[off:])
		wantGetRefused(t, p, off, 221-off, api.ErrRange)
		wantGetRefused(t, p, off, -1, api.ErrRange)
		wantGetRefused(t, p, off, math.MinInt, api.ErrRange)
		wantGetRefused(t, p, off, math.MaxInt, api.ErrRange)
	}
	wantGetRefused(t, p, 221, 0, api.ErrRange)
	wantGetRefused(t, p, 221, -1, api.ErrRange)
	wantGetRefused(t, p, -1, 0, api.ErrRange)
	wantGetRefused(t, p, -1, 1, api.ErrRange)
}

func TestGetOfSumsThatAreTooGreat(t *testing.T) {
	for _, c := range [][2]int{
		{math.MaxInt, math.MaxInt}, {math.MaxInt, 1}, {1, math.MaxInt}, {220, math.MaxInt}, {math.MaxInt, 220},
		{math.MinInt, math.MinInt}, {math.MinInt, -1}, {-1, math.MinInt}, {math.MaxInt - 10, 12}, {12, math.MaxInt - 10},
		{math.MaxInt/2 + 1, math.MaxInt/2 + 1}, {math.MinInt, math.MaxInt}, {math.MaxInt, math.MinInt},
	} {
		wantGetRefused(t, numbered(3), c[0], c[1], api.ErrRange)
	}
}

func TestGetRefusesWrongPagesFirst(t *testing.T) {
	for _, p := range wrongPages() {
		for _, c := range [][2]int{{0, 0}, {3, 2}, {0, 220}, {-1, 2}, {3, -1}, {220, 1}, {221, 0}, {math.MaxInt, math.MaxInt}} {
			wantGetRefused(t, p, c[0], c[1], api.ErrForm)
		}
	}
}

// P6.2

// plain is the bytes that the document gives a page that is right.
func plain(p api.Page) string {
	return string(binary.BigEndian.AppendUint32(nil, uint32(p.At))) + p.Data
}

func TestPackOfAPage(t *testing.T) {
	wantPack(t, page.Empty(), strings.Repeat("\x00", 224))
	wantPack(t, putAsSaid(t, page.Empty(), 0, "first", 0x01020304), "\x01\x02\x03\x04first"+strings.Repeat("\x00", 215))
	wantPack(t, putAsSaid(t, page.Empty(), 215, "last.", maxNum), "\x7f\xff\xff\xff"+strings.Repeat("\x00", 215)+"last.")
}

func TestPackLaysEachPageAsTheDocumentSays(t *testing.T) {
	for _, p := range rightPages() {
		wantPack(t, p, plain(p))
	}
	for bit := range 31 {
		p := numbered(1 << bit)
		wantPack(t, p, plain(p))
	}
}

func TestPackRefusesWrongPages(t *testing.T) {
	for _, p := range wrongPages() {
		was := copied(p)
		if s, e := page.Pack(p); e != api.ErrForm || s != "" {
			t.Errorf("Pack(%s): %q, %d, not ErrForm", told(was), s, e)
		}
		if p != was {
			t.Errorf("Pack changed the page %s", told(was))
		}
	}
}

func TestUnpackReadsEachPage(t *testing.T) {
	for _, p := range rightPages() {
		wantUnpack(t, plain(p), p)
	}
	wantUnpack(t, strings.Repeat("\x00", 224), noughts(0))
	wantUnpack(t, "\x7f"+strings.Repeat("\xff", 223), api.Page{At: maxNum, Data: strings.Repeat("\xff", 220)})
}

func TestUnpackRefusesOtherLengths(t *testing.T) {
	for n := range 700 {
		if n != 224 {
			wantNotUnpacked(t, "bytes", bytesFrom(0, n))
			wantNotUnpacked(t, "noughts", strings.Repeat("\x00", n))
		}
	}
	s := plain(numbered(7))
	for n := range 224 {
		wantNotUnpacked(t, "a beginning", s[:n])
		wantNotUnpacked(t, "an end", s[n+1:])
	}
	wantNotUnpacked(t, "more behind it", s+"\x00")
	wantNotUnpacked(t, "more ahead of it", "\x00"+s)
	wantNotUnpacked(t, "twice", s+s)
	wantNotUnpacked(t, "a long text", strings.Repeat(s, 1000))
}

func TestUnpackRefusesPlacesThatAreTooGreat(t *testing.T) {
	data := bytesFrom(7, 220)
	wantUnpack(t, "\x7f\xff\xff\xff"+data, numbered(maxNum))
	wantNotUnpacked(t, "2^31", "\x80\x00\x00\x00"+data)
	for first := range 256 {
		for _, rest := range []string{"\x00\x00\x00", "\x00\x00\x01", "\xff\xff\xff"} {
			s := string([]byte{byte(first)}) + rest + data
			if first < 0x80 {
				wantUnpack(t, s, numbered(int(binary.BigEndian.Uint32([]byte(s)))))
			} else {
				wantNotUnpacked(t, "a place of 2^31 or more", s)
			}
		}
	}
}

func TestWhatIsPackedIsUnpackedAsItWas(t *testing.T) {
	x := dice(11)
	for range 2000 {
		b := make([]byte, 224)
		for i := range b {
			b[i] = byte(x.below(256))
		}
		p, e := page.Unpack(string(b))
		if b[0] >= 0x80 {
			wantNotUnpacked(t, "any bytes", string(b))
			continue
		}
		if e != api.OK || !page.Right(p) {
			t.Fatalf("Unpack(%q): %s, %d", b, told(p), e)
		}
		wantPack(t, p, string(b))
	}
	for _, p := range rightPages() {
		s, e := page.Pack(p)
		if e != api.OK {
			t.Fatalf("Pack(%s): %d", told(p), e)
		}
		wantUnpack(t, s, p)
	}
}

// P6.3

func TestApplyPutsAfterOfUpdatesAndUndos(t *testing.T) {
	for off := range 220 {
		for n := 1; n <= min(16, 220-off); n++ {
			p, s := numbered(off), bytesFrom(200+off, n)
			want := api.Page{At: off + 1, Data: p.Data[:off] + s + p.Data[off+n:]}
			wantApply(t, p, off+1, update(off, strings.Repeat("b", n), s), want)
			wantApply(t, p, off+1, undo(off, s), want)
		}
	}
}

func TestApplyLooksAtOffAndAfterAlone(t *testing.T) {
	p := numbered(130)
	want := api.Page{At: 140, Data: p.Data[:40] + "now" + p.Data[43:]}
	for _, kind := range []int{api.RUpdate, api.RUndo} {
		for _, r := range []api.Rec{
			{},
			{Txn: maxNum, Page: 7, Prev: 128, Next: 129, Before: "was"},
			{Txn: -1, Page: -1, Prev: -1, Next: math.MaxInt, Begin: 500, Before: strings.Repeat("x", 300)},
			{Page: 8, Prev: 140, Txns: []api.TxnRow{{Txn: 1}}, Pages: []api.PageRow{{Page: 1}}},
		} {
			r.Kind, r.Off, r.After = kind, 40, "now"
			wantApply(t, p, 140, r, want)
		}
	}
}

func TestApplyAtTheEdges(t *testing.T) {
	for _, kind := range []int{api.RUpdate, api.RUndo} {
		r := func(off int, after string) api.Rec { return api.Rec{Kind: kind, Txn: 1, Off: off, After: after} }
		all := bytesFrom(90, 220)
		wantApply(t, numbered(3), 4, r(0, all), api.Page{At: 4, Data: all})
		wantApply(t, numbered(3), 4, r(0, ""), numbered(4))
		wantApply(t, numbered(3), 4, r(220, ""), numbered(4))
		wantApply(t, numbered(3), 4, r(219, "z"), api.Page{At: 4, Data: bytesFrom(7, 219) + "z"})
		wantApply(t, noughts(0), 1, r(0, "z"), api.Page{At: 1, Data: "z" + noughts(0).Data[1:]})
		wantApply(t, noughts(maxNum-1), maxNum, r(0, "z"), api.Page{At: maxNum, Data: "z" + noughts(0).Data[1:]})
		wantApply(t, noughts(0), maxNum, r(0, "z"), api.Page{At: maxNum, Data: "z" + noughts(0).Data[1:]})
	}
}

func TestApplyOfOtherKindsDoesNothing(t *testing.T) {
	for _, p := range rightPages() {
		for _, kind := range []int{api.RCommit, api.REnd, api.RBegin, api.RTables, 0, -1, -2, 7, 8, 257, 258, 1<<32 + 1, math.MinInt, math.MaxInt} {
			for _, at := range []int{0, 1, p.At + 1, maxNum} {
				wantApply(t, p, at, api.Rec{Kind: kind, Txn: 1, Off: 4, Before: "b", After: "c"}, p)
				wantApply(t, p, at, api.Rec{Kind: kind}, p)
			}
		}
	}
}

func TestApplyOfRecordsThatThePageHasDoesNothing(t *testing.T) {
	for _, p := range rightPages() {
		for _, at := range []int{p.At, p.At - 1, p.At - 128, p.At / 2, 0, -1, -maxNum, math.MinInt} {
			if at <= p.At {
				wantApply(t, p, at, update(4, "b", "c"), p)
				wantApply(t, p, at, undo(4, "c"), p)
				wantApply(t, p, at, undo(0, ""), p)
			}
		}
	}
}

func TestApplyWherePutIsAnErrorDoesNothing(t *testing.T) {
	p := numbered(3)
	for _, kind := range []int{api.RUpdate, api.RUndo} {
		r := api.Rec{Kind: kind, Txn: 1, Off: 4, Before: "b", After: "c"}
		for _, at := range noPlaces() {
			wantApply(t, p, at, r, p)
		}
		for _, off := range ints() {
			for _, n := range []int{0, 1, 16, 220, 221} {
				if !inside(off, n) {
					r.Off, r.After = off, bytesFrom(0, n)
					wantApply(t, p, 8, r, p)
				}
			}
		}
	}
}

func TestApplyToWrongPagesDoesNothing(t *testing.T) {
	for _, p := range wrongPages() {
		for _, at := range []int{-1, 0, 1, 7, 8, maxNum, math.MaxInt} {
			for _, r := range []api.Rec{update(4, "b", "c"), undo(4, "c"), undo(0, ""), update(500, "b", "c"), {Kind: api.RCommit}} {
				wantApply(t, p, at, r, p)
			}
		}
	}
}

func TestApplyOfAnyRecordIsAsTheDocumentSays(t *testing.T) {
	x := dice(23)
	pages := append(rightPages(), wrongPages()...)
	offs := ints()
	for range 30000 {
		p := pages[x.below(len(pages))]
		at := p.At + x.below(5) - 2
		off, s := x.piece(20)
		if x.below(3) == 0 {
			off = offs[x.below(len(offs))]
		}
		r := api.Rec{Kind: x.below(8), Txn: 1, Page: x.below(9), Off: off, Before: "b", After: s}
		wantApply(t, p, at, r, plainApply(p, at, r))
	}
}

// P6.4

// history is updates and undos, mostly one over another, with rising places.
func history(x *dice, many int) []api.Entry {
	var list []api.Entry
	at := 0
	for range many {
		at += 1 + x.below(200)
		off, s := x.piece(16)
		if x.below(2) == 0 {
			off %= 30
		}
		r := update(off, strings.Repeat("b", len(s)), s)
		if x.below(3) == 0 {
			r = undo(off, s)
		}
		list = append(list, api.Entry{At: at, R: r})
	}
	return list
}

// after is a page behind entries, each applied once.
func after(t *testing.T, p api.Page, list []api.Entry) api.Page {
	t.Helper()
	for _, x := range list {
		q := plainApply(p, x.At, x.R)
		wantApply(t, p, x.At, x.R, q)
		p = q
	}
	return p
}

func TestARecordAppliedAgainChangesNothing(t *testing.T) {
	for off := range 220 {
		for _, r := range []api.Rec{update(off, "b", "c"), undo(off, "c")} {
			for _, p := range []api.Page{noughts(0), numbered(127)} {
				once := page.Apply(p, 128, r)
				if once == p || once.At != 128 {
					t.Fatalf("Apply(%s, 128, %#v): %s", told(p), r, told(once))
				}
				wantApply(t, once, 128, r, once)
			}
		}
	}
}

func TestRecordsAppliedAgainFromAnyOfThemOnChangeNothing(t *testing.T) {
	x := dice(31)
	for range 60 {
		list := history(&x, 1+x.below(30))
		whole := after(t, page.Empty(), list)
		if last := list[len(list)-1].At; whole.At != last {
			t.Fatalf("behind a record at %d: %s", last, told(whole))
		}
		for from := range list {
			if again := after(t, whole, list[from:]); again != whole {
				t.Fatalf("from %d on again: %s, not %s", list[from].At, told(again), told(whole))
			}
		}
	}
}

func TestAPageWithABeginningBecomesWholeFromAnyPlaceThatItHas(t *testing.T) {
	x := dice(37)
	for range 20 {
		list := history(&x, 1+x.below(20))
		whole := after(t, page.Empty(), list)
		part := page.Empty()
		for n := range list {
			for from := range n + 1 {
				if again := after(t, part, list[from:]); again != whole {
					t.Fatalf("with %d records, from %d on: %s, not %s", n, list[from].At, told(again), told(whole))
				}
			}
			part = page.Apply(part, list[n].At, list[n].R)
		}
	}
}
