package record_test

import (
	"encoding/binary"
	"fmt"
	"math"
	"reflect"
	"slices"
	"strings"
	"testing"

	"careen/api"
	"careen/record"
)

const maxNum = 1<<31 - 1

// number tells whether the document calls it one.
func number(n int) bool {
	return n >= 0 && n <= maxNum
}

// mayBe tells whether the document lets a record be.
func mayBe(r api.Rec) bool {
	named := api.Rec{Kind: r.Kind}
	ok := r.Kind >= 1 && r.Kind <= 6
	if r.Kind >= 1 && r.Kind <= 4 {
		named.Txn, named.Prev = r.Txn, r.Prev
		ok = ok && r.Txn >= 1 && number(r.Txn) && number(r.Prev)
	}
	if r.Kind == 1 || r.Kind == 2 {
		named.Page, named.Off, named.After = r.Page, r.Off, r.After
		ok = ok && r.Page >= 0 && r.Page <= 7 && r.Off >= 0 && r.Off <= 219
		ok = ok && len(r.After) >= 1 && len(r.After) <= 16 && r.Off+len(r.After) <= 220
	}
	switch r.Kind {
	case 1:
		named.Before = r.Before
		ok = ok && len(r.Before) == len(r.After)
	case 2:
		named.Next = r.Next
		ok = ok && number(r.Next)
	case 6:
		named.Begin, named.Txns, named.Pages = r.Begin, r.Txns, r.Pages
		ok = ok && number(r.Begin) && len(r.Txns) <= 4 && len(r.Pages) <= 8
		for _, x := range r.Txns {
			ok = ok && x.Txn >= 1 && number(x.Txn) && number(x.First) && number(x.Last)
		}
		for _, x := range r.Pages {
			ok = ok && x.Page >= 0 && x.Page <= 7 && number(x.Rec)
		}
	}
	return ok && alike(named, r)
}

// alike holds two records against each other without the package's own code: nil and an empty list are one.
func alike(a, b api.Rec) bool {
	for _, r := range []*api.Rec{&a, &b} {
		if len(r.Txns) == 0 {
			r.Txns = nil
		}
		if len(r.Pages) == 0 {
			r.Pages = nil
		}
	}
	return reflect.DeepEqual(a, b)
}

// plain is the bytes that the document gives a record that may be, laid without the package's own code.
func plain(r api.Rec) string {
	b := []byte{byte(r.Kind)}
	numbers := func(list ...int) {
		for _, n := range list {
			b = binary.BigEndian.AppendUint32(b, uint32(n))
		}
	}
	switch r.Kind {
	case 1:
		numbers(r.Txn, r.Prev)
		b = append(b, byte(r.Page), byte(r.Off), byte(len(r.After)))
		b = append(b, r.Before+r.After...)
	case 2:
		numbers(r.Txn, r.Prev, r.Next)
		b = append(b, byte(r.Page), byte(r.Off), byte(len(r.After)))
		b = append(b, r.After...)
	case 3, 4:
		numbers(r.Txn, r.Prev)
	case 6:
		numbers(r.Begin)
		b = append(b, byte(len(r.Txns)))
		for _, x := range r.Txns {
			numbers(x.Txn, x.First, x.Last)
		}
		b = append(b, byte(len(r.Pages)))
		for _, x := range r.Pages {
			b = append(b, byte(x.Page))
			numbers(x.Rec)
		}
	}
	return string(b)
}

// first is the record that begins a text, and how long its bytes are: read by the document's rows as though noughts stood behind the text, and only then asked whether it may be, and whether the text was long enough.
func first(s string) (r api.Rec, n int, ok bool) {
	text := func(size int) string {
		there := s[min(n, len(s)):min(n+size, len(s))]
		n += size
		return there + strings.Repeat("\x00", size-len(there))
	}
	small := func() int { return int(text(1)[0]) }
	num := func() int { return int(binary.BigEndian.Uint32([]byte(text(4)))) }
	r.Kind = small()
	if r.Kind >= 1 && r.Kind <= 4 {
		r.Txn, r.Prev = num(), num()
	}
	if r.Kind == 2 {
		r.Next = num()
	}
	if r.Kind == 1 || r.Kind == 2 {
		r.Page, r.Off = small(), small()
		size := small()
		if r.Kind == 1 {
			r.Before = text(size)
		}
		r.After = text(size)
	}
	if r.Kind == 6 {
		r.Begin = num()
		for range small() {
			r.Txns = append(r.Txns, api.TxnRow{Txn: num(), First: num(), Last: num()})
		}
		for range small() {
			r.Pages = append(r.Pages, api.PageRow{Page: small(), Rec: num()})
		}
	}
	if n > len(s) || !mayBe(r) {
		return api.Rec{}, 0, false
	}
	return r, n, true
}

// bytesFrom is n bytes that run on from the first one, round behind 255.
func bytesFrom(first, n int) string {
	b := make([]byte, n)
	for i := range b {
		b[i] = byte(first + i)
	}
	return string(b)
}

// numbers are ordinary ones, and the edges that the document names.
func numbers() []int {
	return []int{0, 1, 2, 127, 128, 255, 256, 258, 1 << 16, 0x01020304, 1 << 24, 1 << 30, maxNum - 1, maxNum}
}

func txnRow(txn, first, last int) api.TxnRow {
	return api.TxnRow{Txn: txn, First: first, Last: last}
}

func pageRow(page, rec int) api.PageRow {
	return api.PageRow{Page: page, Rec: rec}
}

func txnRows(n int) []api.TxnRow {
	list := make([]api.TxnRow, n)
	for i := range list {
		list[i] = txnRow(n-i, 128+i, maxNum-i)
	}
	return list
}

func pageRows(n int) []api.PageRow {
	list := make([]api.PageRow, n)
	for i := range list {
		list[i] = pageRow(7-i%8, 1000*i)
	}
	return list
}

// ordinary has one record of each kind, each field of it not zero.
func ordinary() []api.Rec {
	return []api.Rec{
		{Kind: api.RUpdate, Txn: 258, Prev: 300, Page: 3, Off: 17, Before: "old", After: "new"},
		{Kind: api.RUndo, Txn: 3, Prev: 400, Next: 128, Page: 5, Off: 9, After: "undone"},
		{Kind: api.RCommit, Txn: 1, Prev: 2},
		{Kind: api.REnd, Txn: 7, Prev: 1000},
		{Kind: api.RBegin},
		{Kind: api.RTables, Begin: 140, Txns: txnRows(2), Pages: pageRows(3)},
	}
}

// mostTables is the longest record that may be.
func mostTables() api.Rec {
	return api.Rec{Kind: api.RTables, Begin: maxNum, Txns: txnRows(4), Pages: pageRows(8)}
}

// ofNumbers has records with each number in each of their fields.
func ofNumbers() []api.Rec {
	var list []api.Rec
	for _, n := range numbers() {
		if n > 0 {
			for kind := api.RUpdate; kind <= api.REnd; kind++ {
				r := ordinary()[kind-1]
				r.Txn = n
				list = append(list, r)
			}
			list = append(list, api.Rec{Kind: api.RTables, Txns: []api.TxnRow{{Txn: n}}})
		}
		for kind := api.RUpdate; kind <= api.REnd; kind++ {
			r := ordinary()[kind-1]
			r.Prev = n
			list = append(list, r)
		}
		list = append(list,
			api.Rec{Kind: api.RUndo, Txn: 1, Next: n, After: "x"},
			api.Rec{Kind: api.RTables, Begin: n},
			api.Rec{Kind: api.RTables, Txns: []api.TxnRow{{Txn: 1, First: n}}},
			api.Rec{Kind: api.RTables, Txns: []api.TxnRow{{Txn: 1, Last: n}}},
			api.Rec{Kind: api.RTables, Pages: []api.PageRow{{Page: 7, Rec: n}}},
		)
	}
	return list
}

// ofTexts has changes of each length, at each edge of each page.
func ofTexts() []api.Rec {
	var list []api.Rec
	for size := 1; size <= 16; size++ {
		for p := range 8 {
			for _, off := range []int{0, 1, 100, 203, 204, 219 - size, 220 - size} {
				if off+size > 220 {
					continue
				}
				before, after := bytesFrom(off*3, size), bytesFrom(255-p, size)
				list = append(list,
					api.Rec{Kind: api.RUpdate, Txn: 1, Prev: 128, Page: p, Off: off, Before: before, After: after},
					api.Rec{Kind: api.RUndo, Txn: 2, Prev: 129, Next: 130, Page: p, Off: off, After: after},
				)
			}
		}
		list = append(list,
			api.Rec{Kind: api.RUpdate, Txn: 1, Before: strings.Repeat("\x00", size), After: strings.Repeat("\xff", size)},
			api.Rec{Kind: api.RUpdate, Txn: 1, Before: strings.Repeat("\x05", size), After: strings.Repeat("\x05", size)},
			api.Rec{Kind: api.RUndo, Txn: 1, After: strings.Repeat("\x00", size)},
		)
	}
	return list
}

// ofTables has checkpoints of each number of rows, in any order, some twice.
func ofTables() []api.Rec {
	var list []api.Rec
	for n := range 5 {
		for m := range 9 {
			list = append(list, api.Rec{Kind: api.RTables, Begin: n << m, Txns: txnRows(n), Pages: pageRows(m)})
		}
	}
	return append(list,
		api.Rec{Kind: api.RTables, Txns: []api.TxnRow{}, Pages: []api.PageRow{}},
		api.Rec{Kind: api.RTables, Txns: []api.TxnRow{txnRow(1, 2, 3), txnRow(1, 2, 3), txnRow(9, 5, 4)}, Pages: []api.PageRow{pageRow(7, 1), pageRow(0, 2), pageRow(7, 1)}},
		api.Rec{Kind: api.RBegin, Txns: []api.TxnRow{}, Pages: []api.PageRow{}},
		api.Rec{Kind: api.RCommit, Txn: 1, Txns: []api.TxnRow{}},
	)
}

// records may all be: ordinary ones, and the edges that the document names.
func records() []api.Rec {
	return slices.Concat(ordinary(), []api.Rec{mostTables()}, ofNumbers(), ofTexts(), ofTables())
}

func wantPrint(t *testing.T, r api.Rec, want string) {
	t.Helper()
	if s, e := record.Print(r); e != api.OK || s != want {
		t.Fatalf("Print(%+v): %x, %d, not %x", r, s, e, want)
	}
}

func wantRefused(t *testing.T, what string, r api.Rec) {
	t.Helper()
	if s, e := record.Print(r); e != api.ErrArg || s != "" {
		t.Errorf("%s: Print(%+v): %x, %d, not ErrArg", what, r, s, e)
	}
}

func wantRead(t *testing.T, s string, at int, want api.Rec, behind int) {
	t.Helper()
	if r, next, e := record.Read(s, at); e != api.OK || next != behind || !alike(r, want) {
		t.Fatalf("Read(%x, %d): %+v, %d, %d, not %+v, %d", s, at, r, next, e, want, behind)
	}
}

func wantUnread(t *testing.T, s string, at int, want api.Errno) {
	t.Helper()
	if r, next, e := record.Read(s, at); e != want || next != 0 || !reflect.DeepEqual(r, api.Rec{}) {
		t.Fatalf("Read(%x, %d): %+v, %d, %d, not %d", s, at, r, next, e, want)
	}
}

// readsAsSaid holds Read at a place against the document's rows.
func readsAsSaid(t *testing.T, s string, at int) {
	t.Helper()
	if r, n, ok := first(s[at:]); ok {
		wantRead(t, s, at, r, at+n)
	} else {
		wantUnread(t, s, at, api.ErrForm)
	}
}

// allAsSaid holds All against the document's rows.
func allAsSaid(t *testing.T, s string) {
	t.Helper()
	var want []api.Entry
	for at := 0; at < len(s); {
		r, n, ok := first(s[at:])
		if !ok {
			wantNotAll(t, s)
			return
		}
		want = append(want, api.Entry{At: at, R: r})
		at += n
	}
	wantAll(t, s, want)
}

func wantAll(t *testing.T, s string, want []api.Entry) {
	t.Helper()
	list, e := record.All(s)
	same := slices.EqualFunc(list, want, func(a, b api.Entry) bool { return a.At == b.At && alike(a.R, b.R) })
	if e != api.OK || !same {
		t.Fatalf("All(%x): %+v, %d, not %+v", s, list, e, want)
	}
}

func wantNotAll(t *testing.T, s string) {
	t.Helper()
	if list, e := record.All(s); e != api.ErrForm || len(list) != 0 {
		t.Fatalf("All(%x): %+v, %d, not ErrForm", s, list, e)
	}
}

// The chapter's examples, and one of each other kind.

func TestExamples(t *testing.T) {
	for _, c := range []struct {
		r api.Rec
		s string
	}{
		{api.Rec{Kind: api.RCommit, Txn: 1, Prev: 2}, "\x03\x00\x00\x00\x01\x00\x00\x00\x02"},
		{api.Rec{Kind: api.RBegin}, "\x05"},
		{api.Rec{Kind: api.REnd, Txn: 0x01020304, Prev: maxNum}, "\x04\x01\x02\x03\x04\x7f\xff\xff\xff"},
		{
			api.Rec{Kind: api.RUpdate, Txn: 1, Prev: 2, Page: 7, Off: 218, Before: "ab", After: "cd"},
			"\x01\x00\x00\x00\x01\x00\x00\x00\x02\x07\xda\x02abcd",
		},
		{
			api.Rec{Kind: api.RUndo, Txn: 1, Prev: 0x80, Next: 0x181, Page: 0, Off: 5, After: "xyz"},
			"\x02\x00\x00\x00\x01\x00\x00\x00\x80\x00\x00\x01\x81\x00\x05\x03xyz",
		},
		{api.Rec{Kind: api.RTables}, "\x06\x00\x00\x00\x00\x00\x00"},
		{
			api.Rec{Kind: api.RTables, Begin: 128, Txns: []api.TxnRow{txnRow(2, 3, 4), txnRow(1, 5, 6)}, Pages: []api.PageRow{pageRow(7, 8), pageRow(0, 9)}},
			"\x06\x00\x00\x00\x80" +
				"\x02\x00\x00\x00\x02\x00\x00\x00\x03\x00\x00\x00\x04\x00\x00\x00\x01\x00\x00\x00\x05\x00\x00\x00\x06" +
				"\x02\x07\x00\x00\x00\x08\x00\x00\x00\x00\x09",
		},
	} {
		wantPrint(t, c.r, c.s)
		wantRead(t, c.s, 0, c.r, len(c.s))
		wantAll(t, c.s, []api.Entry{{R: c.r}})
	}
}

// P4.1: Print

func TestPrintLaysEachRecordAsTheDocumentSays(t *testing.T) {
	for _, r := range records() {
		if !mayBe(r) {
			t.Fatalf("the test has a record that may not be: %+v", r)
		}
		wantPrint(t, r, plain(r))
		wantPrint(t, r, plain(r))
	}
}

func TestPrintRefusesKindsThatAreNone(t *testing.T) {
	for _, kind := range []int{0, -1, 7, 8, 255, 256, 257, 259, 261, 262, 1<<32 + 3, 1<<32 + 5, -251, -253, math.MinInt, math.MinInt + 5, math.MaxInt} {
		wantRefused(t, "no kind", api.Rec{Kind: kind})
		for _, r := range ordinary() {
			r.Kind = kind
			wantRefused(t, "no kind", r)
		}
	}
	wantRefused(t, "an empty record", api.Rec{})
}

// beyond are no numbers, those among them too whose last four bytes are one.
func beyond() []int {
	return []int{-1, -2, -128, maxNum + 1, 1<<32 - 1, 1 << 32, 1<<32 + 1, 1<<32 + 128, 1 << 40, 1 - 1<<32, math.MinInt, math.MinInt + 1, math.MaxInt}
}

func TestPrintRefusesWhatAreNoNumbers(t *testing.T) {
	for _, n := range beyond() {
		for _, r := range ordinary()[:4] {
			r.Txn = n
			wantRefused(t, "Txn", r)
		}
		for _, r := range ordinary()[:4] {
			r.Prev = n
			wantRefused(t, "Prev", r)
		}
		wantRefused(t, "Next", api.Rec{Kind: api.RUndo, Txn: 1, Next: n, After: "x"})
		wantRefused(t, "Begin", api.Rec{Kind: api.RTables, Begin: n})
		for i := range 4 {
			for j, row := range []api.TxnRow{txnRow(n, 2, 3), txnRow(1, n, 3), txnRow(1, 2, n)} {
				rows := txnRows(4)
				rows[i] = row
				wantRefused(t, "the number "+string(rune('0'+j))+" of a row of Txns", api.Rec{Kind: api.RTables, Txns: rows})
			}
		}
		for i := range 8 {
			rows := pageRows(8)
			rows[i].Rec = n
			wantRefused(t, "Rec of a row of Pages", api.Rec{Kind: api.RTables, Pages: rows})
		}
	}
}

func TestPrintRefusesATransactionOfZero(t *testing.T) {
	for _, r := range ordinary()[:4] {
		r.Txn = 0
		wantRefused(t, "a Txn of 0", r)
	}
	for n := 1; n <= 4; n++ {
		for i := range n {
			rows := txnRows(n)
			rows[i].Txn = 0
			wantRefused(t, "a row of Txns with a Txn of 0", api.Rec{Kind: api.RTables, Txns: rows})
		}
	}
}

func TestPrintRefusesPagesBeyond(t *testing.T) {
	for _, p := range append(beyond(), 8, 9, 255, 256, 257, 263, -256, -255, -249) {
		for _, r := range ordinary()[:2] {
			r.Page = p
			wantRefused(t, "Page", r)
		}
		for i := range 8 {
			rows := pageRows(8)
			rows[i].Page = p
			wantRefused(t, "Page of a row of Pages", api.Rec{Kind: api.RTables, Pages: rows})
		}
	}
}

func TestPrintRefusesTextsThatEndBehindAPage(t *testing.T) {
	for size := 1; size <= 16; size++ {
		for _, off := range append(beyond(), 221-size, 222-size, 220, 221, 255, 256, 256+17, -256, -239, math.MaxInt-size, math.MaxInt-15) {
			x := strings.Repeat("x", size)
			wantRefused(t, "an update that ends behind the page", api.Rec{Kind: api.RUpdate, Txn: 1, Off: off, Before: x, After: x})
			wantRefused(t, "an undo that ends behind the page", api.Rec{Kind: api.RUndo, Txn: 1, Off: off, After: x})
		}
	}
}

func TestPrintRefusesTextsOfOtherLengths(t *testing.T) {
	for _, size := range []int{0, 17, 18, 100, 220, 221, 255, 256, 257, 272, 513} {
		for _, fill := range []string{"\x00", "x"} {
			x := strings.Repeat(fill, size)
			wantRefused(t, "an update", api.Rec{Kind: api.RUpdate, Txn: 1, Before: x, After: x})
			wantRefused(t, "an update to a byte", api.Rec{Kind: api.RUpdate, Txn: 1, Before: x, After: "y"})
			wantRefused(t, "an undo", api.Rec{Kind: api.RUndo, Txn: 1, After: x})
		}
	}
	for before := range 40 {
		for after := range 40 {
			if before == after {
				continue
			}
			r := api.Rec{Kind: api.RUpdate, Txn: 1, Before: strings.Repeat("x", before), After: strings.Repeat("x", after)}
			wantRefused(t, "a Before that isn't as long as After", r)
		}
	}
}

func TestPrintRefusesTooManyRows(t *testing.T) {
	for _, n := range []int{5, 6, 255, 256, 257, 260, 512} {
		wantRefused(t, "Txns", api.Rec{Kind: api.RTables, Txns: txnRows(n)})
		wantRefused(t, "Txns", api.Rec{Kind: api.RTables, Txns: slices.Repeat(txnRows(1), n)})
	}
	for _, n := range []int{9, 10, 255, 256, 257, 264, 512} {
		wantRefused(t, "Pages", api.Rec{Kind: api.RTables, Pages: pageRows(n)})
		wantRefused(t, "Pages", api.Rec{Kind: api.RTables, Txns: txnRows(4), Pages: slices.Repeat(pageRows(1), n)})
	}
}

// settings change one field of a record.
func settings() map[string]func(*api.Rec) {
	list := map[string]func(*api.Rec){}
	fields := map[string]func(*api.Rec) *int{
		"Kind":  func(r *api.Rec) *int { return &r.Kind },
		"Txn":   func(r *api.Rec) *int { return &r.Txn },
		"Page":  func(r *api.Rec) *int { return &r.Page },
		"Off":   func(r *api.Rec) *int { return &r.Off },
		"Prev":  func(r *api.Rec) *int { return &r.Prev },
		"Next":  func(r *api.Rec) *int { return &r.Next },
		"Begin": func(r *api.Rec) *int { return &r.Begin },
	}
	for name, field := range fields {
		for _, n := range slices.Concat(numbers(), beyond(), []int{3, 4, 5, 6, 7, 8, 203, 204, 205, 217, 218, 219, 220, 257, 262}) {
			list[fmt.Sprint(name, " ", n)] = func(r *api.Rec) { *field(r) = n }
			list[fmt.Sprint(name, " more by ", n)] = func(r *api.Rec) { *field(r) += n }
		}
	}
	for _, n := range []int{0, 1, 2, 3, 6, 16, 17, 256, 259} {
		list[fmt.Sprint("Before of ", n)] = func(r *api.Rec) { r.Before = bytesFrom(0, n) }
		list[fmt.Sprint("After of ", n)] = func(r *api.Rec) { r.After = bytesFrom(0, n) }
		list[fmt.Sprint("texts of ", n)] = func(r *api.Rec) { r.Before, r.After = bytesFrom(1, n), bytesFrom(2, n) }
		list[fmt.Sprint("Txns of ", n)] = func(r *api.Rec) { r.Txns = txnRows(n) }
		list[fmt.Sprint("Pages of ", n)] = func(r *api.Rec) { r.Pages = pageRows(n) }
	}
	return list
}

func TestPrintWithOneFieldChanged(t *testing.T) {
	refused := 0
	for name, set := range settings() {
		for _, r := range append(ordinary(), mostTables()) {
			set(&r)
			if mayBe(r) {
				wantPrint(t, r, plain(r))
			} else {
				wantRefused(t, name, r)
				refused++
			}
		}
	}
	if refused == 0 {
		t.Error("none was refused")
	}
}

func TestPrintRefusesFieldsThatTheKindHasNot(t *testing.T) {
	others := map[string][]int{ // the kinds that have it
		"Txn": {1, 2, 3, 4}, "Page": {1, 2}, "Off": {1, 2}, "Prev": {1, 2, 3, 4}, "Next": {2}, "Begin": {6},
		"Before": {1}, "After": {1, 2}, "Txns": {6}, "Pages": {6},
	}
	for name, kinds := range others {
		for _, r := range ordinary() {
			if slices.Contains(kinds, r.Kind) {
				continue
			}
			switch f := reflect.ValueOf(&r).Elem().FieldByName(name); f.Kind() {
			case reflect.Int:
				for _, n := range []int{1, -1, 256, maxNum, 1 << 32} {
					f.SetInt(int64(n))
					wantRefused(t, name, r)
				}
			case reflect.String:
				for _, s := range []string{"x", "\x00", r.After, "old"} {
					if s != "" {
						f.SetString(s)
						wantRefused(t, name, r)
					}
				}
			case reflect.Slice:
				f.Set(reflect.MakeSlice(f.Type(), 1, 1))
				wantRefused(t, name, r)
			}
		}
	}
}

func TestPrintChangesNothingThatItWasGiven(t *testing.T) {
	txns, pages := txnRows(4), pageRows(8)
	for n := range 5 {
		for m := range 9 {
			r := api.Rec{Kind: api.RTables, Begin: 1, Txns: txns[:n], Pages: pages[:m]}
			was := r
			wantPrint(t, r, plain(r))
			record.Same(r, was)
			if !alike(r, was) || !slices.Equal(txns, txnRows(4)) || !slices.Equal(pages, pageRows(8)) {
				t.Fatalf("%d Txns and %d Pages have changed", n, m)
			}
		}
	}
}

// P4.1: Read

func TestReadOfPlacesBeyondTheText(t *testing.T) {
	for _, r := range append(ordinary(), mostTables()) {
		s := plain(r)
		for _, text := range []string{"", "\x05", s, s + "\x05", s + s} {
			for _, at := range []int{-1, -2, -len(text) - 1, len(text) + 1, len(text) + 2, 1 << 32, -1 << 32, math.MinInt, math.MaxInt} {
				wantUnread(t, text, at, api.ErrRange)
			}
		}
	}
}

func TestReadOfTheEnd(t *testing.T) {
	wantUnread(t, "", 0, api.ErrForm)
	for _, r := range append(ordinary(), mostTables()) {
		wantUnread(t, plain(r), len(plain(r)), api.ErrForm)
	}
}

func TestReadAtEachPlaceOfATextThatIsMoreThanRecords(t *testing.T) {
	for _, fill := range []string{"\x00", "\x05", "\xff", "\x01", "\x06\x00"} {
		for _, r := range append(ordinary(), mostTables()) {
			s := strings.Repeat(fill, 20) + plain(r) + strings.Repeat(fill, 20)
			for at := 0; at <= len(s); at++ {
				readsAsSaid(t, s, at)
			}
		}
	}
}

func TestReadRefusesBytesThatAreNoRecord(t *testing.T) {
	const behind = "\x05\x05\x05\x05\x05\x05\x05\x05\x05\x05\x05\x05\x05\x05\x05\x05\x05\x05\x05\x05"
	row, page := "\x00\x00\x00\x01\x00\x00\x00\x02\x00\x00\x00\x03", "\x01\x00\x00\x00\x02"
	for what, s := range map[string]string{
		"no kind":                          "\x00",
		"a kind of 7":                      "\x07",
		"a kind of 255":                    "\xff",
		"a Txn of 0":                       "\x03\x00\x00\x00\x00\x00\x00\x00\x01",
		"an update's Txn of 0":             "\x01\x00\x00\x00\x00\x00\x00\x00\x01\x00\x00\x01xx",
		"a Txn above MaxNum":               "\x04\x80\x00\x00\x00\x00\x00\x00\x01",
		"a Prev above MaxNum":              "\x04\x00\x00\x00\x01\x80\x00\x00\x00",
		"a Next above MaxNum":              "\x02\x00\x00\x00\x01\x00\x00\x00\x01\xff\xff\xff\xff\x00\x00\x01x",
		"a Page of 8":                      "\x01\x00\x00\x00\x01\x00\x00\x00\x01\x08\x00\x01xx",
		"an undo's Page of 255":            "\x02\x00\x00\x00\x01\x00\x00\x00\x01\x00\x00\x00\x01\xff\x00\x01x",
		"no text":                          "\x01\x00\x00\x00\x01\x00\x00\x00\x01\x00\x00\x00",
		"an undo without a text":           "\x02\x00\x00\x00\x01\x00\x00\x00\x01\x00\x00\x00\x01\x00\x00\x00",
		"a text of 17 bytes":               "\x01\x00\x00\x00\x01\x00\x00\x00\x01\x00\x00\x11" + strings.Repeat("x", 34),
		"an undo's text of 17 bytes":       "\x02\x00\x00\x00\x01\x00\x00\x00\x01\x00\x00\x00\x01\x00\x00\x11" + strings.Repeat("x", 17),
		"a text of 255 bytes":              "\x01\x00\x00\x00\x01\x00\x00\x00\x01\x00\x00\xff" + strings.Repeat("x", 510),
		"a byte behind the page":           "\x01\x00\x00\x00\x01\x00\x00\x00\x01\x00\xdc\x01xx",
		"a text that ends behind the page": "\x01\x00\x00\x00\x01\x00\x00\x00\x01\x00\xcd\x10" + strings.Repeat("x", 32),
		"an undo that ends behind it":      "\x02\x00\x00\x00\x01\x00\x00\x00\x01\x00\x00\x00\x01\x00\xdb\x02xx",
		"an Off of 255":                    "\x01\x00\x00\x00\x01\x00\x00\x00\x01\x00\xff\x01xx",
		"a Begin above MaxNum":             "\x06\x80\x00\x00\x00\x00\x00",
		"5 Txns":                           "\x06\x00\x00\x00\x00\x05" + strings.Repeat(row, 5) + "\x00",
		"255 Txns":                         "\x06\x00\x00\x00\x00\xff" + strings.Repeat(row, 255) + "\x00",
		"9 Pages":                          "\x06\x00\x00\x00\x00\x00\x09" + strings.Repeat(page, 9),
		"255 Pages":                        "\x06\x00\x00\x00\x00\x00\xff" + strings.Repeat(page, 255),
		"a row's Txn of 0":                 "\x06\x00\x00\x00\x00\x01\x00\x00\x00\x00\x00\x00\x00\x02\x00\x00\x00\x03\x00",
		"a row's First above MaxNum":       "\x06\x00\x00\x00\x00\x01\x00\x00\x00\x01\x80\x00\x00\x00\x00\x00\x00\x03\x00",
		"a row's Last above MaxNum":        "\x06\x00\x00\x00\x00\x01\x00\x00\x00\x01\x00\x00\x00\x02\xff\xff\xff\xff\x00",
		"a row's Page of 8":                "\x06\x00\x00\x00\x00\x00\x01\x08\x00\x00\x00\x01",
		"a row's Rec above MaxNum":         "\x06\x00\x00\x00\x00\x00\x01\x07\x80\x00\x00\x00",
	} {
		t.Run(what, func(t *testing.T) {
			for _, text := range []string{s, s + behind} {
				wantUnread(t, text, 0, api.ErrForm)
				wantUnread(t, "\x05"+text, 1, api.ErrForm)
				wantNotAll(t, text)
				wantNotAll(t, "\x05"+text)
			}
		})
	}
}

func TestReadWithOneByteChanged(t *testing.T) {
	list := append(ordinary(), mostTables(),
		api.Rec{Kind: api.RUpdate, Txn: 1, Page: 7, Off: 204, Before: bytesFrom(0, 16), After: bytesFrom(16, 16)},
		api.Rec{Kind: api.RUndo, Txn: 1, Page: 7, Off: 219, After: "\x01"},
		api.Rec{Kind: api.RTables},
	)
	for _, r := range list {
		s := plain(r)
		for i := range s {
			for v := range 256 {
				b := []byte(s + "\x05\x00\x00")
				b[i] = byte(v)
				readsAsSaid(t, string(b), 0)
			}
		}
	}
}

func TestWhatIsReadIsNewEachTime(t *testing.T) {
	s := plain(mostTables())
	a, _, _ := record.Read(s, 0)
	for i := range a.Txns {
		a.Txns[i] = api.TxnRow{}
	}
	for i := range a.Pages {
		a.Pages[i] = api.PageRow{}
	}
	wantRead(t, s, 0, mostTables(), len(s))

	list, _ := record.All(s + s)
	if len(list) != 2 {
		t.Fatalf("All of two: %d", len(list))
	}
	r := list[0].R
	clear(r.Txns)
	clear(r.Pages)
	if !alike(list[1].R, mostTables()) {
		t.Error("two records of one answer share their rows")
	}
	wantAll(t, s+s, []api.Entry{{At: 0, R: mostTables()}, {At: len(s), R: mostTables()}})
}

// P4.2

func TestAllOfNothing(t *testing.T) {
	wantAll(t, "", nil)
}

func TestAllOfRecordsInARow(t *testing.T) {
	list := records()
	for i := range list {
		for n := range 6 {
			s, want := "", []api.Entry(nil)
			for j := range n {
				r := list[(i+j*37)%len(list)]
				want = append(want, api.Entry{At: len(s), R: r})
				s += plain(r)
			}
			wantAll(t, s, want)
		}
	}
	want := make([]api.Entry, 5000)
	for i := range want {
		want[i] = api.Entry{At: i, R: api.Rec{Kind: api.RBegin}}
	}
	wantAll(t, strings.Repeat("\x05", 5000), want)
}

func TestAllRefusesWhatIsMoreOrLessThanRecords(t *testing.T) {
	for _, r := range records() {
		s := plain(r)
		for _, more := range []string{"\x00", "\x07", "\xff", "\x04", "\x04\x00\x00\x00\x00\x00\x00\x00\x00", "\x05\x00"} {
			wantNotAll(t, s+more)
			wantNotAll(t, more+s)
			wantNotAll(t, s+more+s)
		}
		for n := 1; n < len(s); n++ {
			wantNotAll(t, s[:n])
			wantNotAll(t, "\x05"+s[:n])
		}
	}
}

func TestSameOfEachPair(t *testing.T) {
	list := append(ordinary(), mostTables(), api.Rec{}, api.Rec{Kind: 9, Txn: -1, Off: math.MinInt})
	for i, a := range list {
		for j, b := range list {
			if got := record.Same(a, b); got != (i == j) {
				t.Errorf("Same(%+v, %+v): %v", a, b, got)
			}
		}
	}
	for _, r := range records() {
		copied := r
		copied.Before, copied.After = strings.Clone(r.Before), strings.Clone(r.After)
		copied.Txns, copied.Pages = slices.Clone(r.Txns), slices.Clone(r.Pages)
		if !record.Same(r, copied) || !record.Same(copied, r) {
			t.Errorf("%+v isn't the same as its copy", r)
		}
	}
}

func TestSameWithOneFieldChanged(t *testing.T) {
	list := append(ordinary(), mostTables(), api.Rec{})
	for name, set := range settings() {
		for _, a := range list {
			b := a
			set(&b)
			want := alike(a, b)
			if record.Same(a, b) != want || record.Same(b, a) != want {
				t.Errorf("%s: Same(%+v, %+v): not %v", name, a, b, want)
			}
		}
	}
}

func TestSameGoesRowByRow(t *testing.T) {
	full := mostTables()
	for i := range 4 {
		x := full.Txns[i]
		for _, row := range []api.TxnRow{txnRow(99, x.First, x.Last), txnRow(x.Txn, 99, x.Last), txnRow(x.Txn, x.First, 99)} {
			other := mostTables()
			other.Txns[i] = row
			wantOther(t, full, other)
		}
		other := mostTables()
		other.Txns = slices.Delete(other.Txns, i, i+1)
		wantOther(t, full, other)
	}
	for i := range 8 {
		x := full.Pages[i]
		for _, row := range []api.PageRow{pageRow(99, x.Rec), pageRow(x.Page, 99)} {
			other := mostTables()
			other.Pages[i] = row
			wantOther(t, full, other)
		}
		other := mostTables()
		other.Pages = slices.Delete(other.Pages, i, i+1)
		wantOther(t, full, other)
	}
	turned := mostTables()
	slices.Reverse(turned.Txns)
	wantOther(t, full, turned)
	turned = mostTables()
	slices.Reverse(turned.Pages)
	wantOther(t, full, turned)
}

func wantOther(t *testing.T, a, b api.Rec) {
	t.Helper()
	if record.Same(a, b) || record.Same(b, a) {
		t.Errorf("the same: %+v and %+v", a, b)
	}
}

func TestNoListAndAnEmptyOneAreOne(t *testing.T) {
	for _, r := range append(ordinary()[:5], api.Rec{Kind: api.RTables}, api.Rec{}) {
		empty := r
		empty.Txns, empty.Pages = []api.TxnRow{}, []api.PageRow{}
		if !record.Same(r, empty) || !record.Same(empty, r) {
			t.Errorf("with nil and with empty lists: %+v", r)
		}
		s, e := record.Print(r)
		if s2, e2 := record.Print(empty); s2 != s || e2 != e {
			t.Errorf("Print of %+v with empty lists: %x, %d, not %x, %d", r, s2, e2, s, e)
		}
	}
}

// P4.3

func TestWhatIsPrintedIsReadWhereverItStands(t *testing.T) {
	for _, r := range records() {
		s, e := record.Print(r)
		if e != api.OK {
			t.Fatalf("Print(%+v): %d", r, e)
		}
		for at := 0; at+len(s) <= api.Body; at++ {
			ahead, behind := bytesFrom(at, at), bytesFrom(7*at, api.Body-at-len(s))
			got, next, e := record.Read(ahead+s+behind, at)
			if e != api.OK || next != at+len(s) || !record.Same(got, r) || !alike(got, r) {
				t.Fatalf("%+v at %d comes back as %+v, %d, %d", r, at, got, next, e)
			}
		}
	}
}

func TestWhatIsPrintedFitsIntoASlab(t *testing.T) {
	most := 0
	for _, r := range records() {
		s, e := record.Print(r)
		if e != api.OK || len(s) < 1 || len(s) > 112 {
			t.Errorf("Print(%+v): %d bytes, %d", r, len(s), e)
		}
		most = max(most, len(s))
	}
	if s, _ := record.Print(mostTables()); len(s) != 95 || most != 95 {
		t.Errorf("4 Txns and 8 Pages: %d bytes, the longest one has %d, not 95", len(s), most)
	}
}

func TestWhatIsCutOffIsNone(t *testing.T) {
	for _, r := range records() {
		s, e := record.Print(r)
		if e != api.OK {
			t.Fatalf("Print(%+v): %d", r, e)
		}
		for n := range s {
			wantUnread(t, s[:n], 0, api.ErrForm)
			wantUnread(t, "\x00\x05"+s[:n], 2, api.ErrForm)
			wantUnread(t, s+s[:n], len(s), api.ErrForm)
		}
	}
}

// dice are numbers that look like any ones, the same at each run.
type dice uint64

func (x *dice) below(n int) int {
	*x ^= *x << 13
	*x ^= *x >> 7
	*x ^= *x << 17
	return int(uint64(*x>>11) % uint64(n))
}

func TestAnyBytes(t *testing.T) {
	list := records()
	x := dice(0x9E3779B97F4A7C15)
	whole, torn := 0, 0
	for range 4000 {
		var b []byte
		for range x.below(4) {
			b = append(b, plain(list[x.below(len(list))])...)
		}
		for range x.below(3) {
			if len(b) > 0 {
				b[x.below(len(b))] = byte(x.below(256) >> x.below(8))
			}
		}
		if x.below(4) == 0 {
			b = b[:x.below(len(b)+1)]
		}
		s := string(b)
		allAsSaid(t, s)
		for at := range len(s) + 1 {
			readsAsSaid(t, s, at)
			if r, next, e := record.Read(s, at); e == api.OK {
				wantPrint(t, r, s[at:next]) // each just one way
				whole++
			} else {
				torn++
			}
		}
	}
	if whole == 0 || torn == 0 {
		t.Errorf("%d records, %d places without one", whole, torn)
	}
}
