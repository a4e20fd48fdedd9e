package wal_test

import (
	"fmt"
	"math"
	"slices"
	"strconv"
	"strings"
	"testing"

	"careen/api"
	"careen/disk"
	"careen/record"
	"careen/slab"
	"careen/wal"
)

// commit is a record of 9 bytes.
func commit(txn int) api.Rec {
	return api.Rec{Kind: api.RCommit, Txn: txn, Prev: 2 * txn}
}

// begin is a record of one byte.
func begin() api.Rec {
	return api.Rec{Kind: api.RBegin}
}

// update is a record of 12 bytes, and two for each byte that it changes.
func update(txn, size int) api.Rec {
	x := strings.Repeat("x", size)
	return api.Rec{Kind: api.RUpdate, Txn: txn, Prev: 128, Page: txn % 8, Off: 3, Before: x, After: strings.ToUpper(x)}
}

// tables is a record of 7 bytes, 12 for each of n transactions, and 5 for each of m pages.
func tables(n, m int) api.Rec {
	r := api.Rec{Kind: api.RTables, Begin: 128 * n}
	for i := range n {
		r.Txns = append(r.Txns, api.TxnRow{Txn: i + 1, First: 128 + i, Last: 200 + i})
	}
	for i := range m {
		r.Pages = append(r.Pages, api.PageRow{Page: i, Rec: 300 + i})
	}
	return r
}

// kinds has records of each kind.
func kinds() []api.Rec {
	return []api.Rec{
		update(1, 3),
		{Kind: api.RUndo, Txn: 3, Prev: 400, Next: 128, Page: 5, Off: 9, After: "undone"},
		commit(1),
		{Kind: api.REnd, Txn: 7, Prev: 1000},
		begin(),
		tables(2, 3),
		tables(4, 8), // the longest one
		update(2, 16),
		tables(0, 0),
	}
}

// wrong has records that may not be.
func wrong() []api.Rec {
	return []api.Rec{
		{},
		{Kind: 7},
		{Kind: -1},
		commit(0),
		commit(-1),
		{Kind: api.RBegin, Txn: 1},
		{Kind: api.RUpdate, Txn: 1, Before: "a", After: "bc"},
		{Kind: api.RUndo, Txn: 1, Off: 220, After: "x"},
		update(1, 17),
		tables(5, 0),
		tables(0, 9),
	}
}

// printed is the bytes of records, one behind the other.
func printed(t *testing.T, list ...api.Rec) string {
	t.Helper()
	s := ""
	for _, r := range list {
		text, e := record.Print(r)
		if e != api.OK {
			t.Fatalf("the test has a record that may not be: %+v", r)
		}
		s += text
	}
	return s
}

// packed is a slab's sector.
func packed(t *testing.T, epoch uint32, index int, body string) string {
	t.Helper()
	s, e := slab.Pack(api.Slab{Epoch: epoch, Index: uint32(index), Body: body})
	if e != api.OK {
		t.Fatalf("Pack: %d", e)
	}
	return s
}

func newDisk(t *testing.T, n int) *disk.Disk {
	t.Helper()
	d, e := disk.New(n)
	if e != api.OK {
		t.Fatalf("disk.New(%d): %d", n, e)
	}
	return d
}

func newLog(t *testing.T, d *disk.Disk, base, n int) *wal.Log {
	t.Helper()
	l, e := wal.New(d, base, n)
	if e != api.OK || l == nil {
		t.Fatalf("New(%d, %d): a log: %v, %d", base, n, l != nil, e)
	}
	return l
}

func opened(t *testing.T, d *disk.Disk, base, n, low int) *wal.Log {
	t.Helper()
	l, e := wal.Open(d, base, n, low)
	if e != api.OK || l == nil {
		t.Fatalf("Open(%d, %d, %d): a log: %v, %d", base, n, low, l != nil, e)
	}
	return l
}

// put lays a sector's text on the disk, safely.
func put(t *testing.T, d *disk.Disk, i int, s string) {
	t.Helper()
	if e := d.Write(i, s); e != api.OK {
		t.Fatalf("disk.Write(%d): %d", i, e)
	}
	if e := d.Sync(); e != api.OK {
		t.Fatalf("disk.Sync: %d", e)
	}
}

// sectors is what a disk has.
func sectors(t *testing.T, d *disk.Disk) []string {
	t.Helper()
	list := make([]string, d.Size())
	for i := range list {
		s, e := d.Read(i)
		if e != api.OK {
			t.Fatalf("disk.Read(%d): %d", i, e)
		}
		list[i] = s
	}
	return list
}

func want(t *testing.T, what string, got, e api.Errno) {
	t.Helper()
	if got != e {
		t.Errorf("%s: %d, not %d", what, got, e)
	}
}

func wantAppend(t *testing.T, l *wal.Log, r api.Rec, place int) {
	t.Helper()
	if at, e := l.Append(r); at != place || e != api.OK {
		t.Fatalf("Append(%+v): %d, %d, not %d", r, at, e, place)
	}
}

func wantNoAppend(t *testing.T, l *wal.Log, r api.Rec, want api.Errno) {
	t.Helper()
	if at, e := l.Append(r); at != 0 || e != want {
		t.Fatalf("Append(%+v): %d, %d, not %d", r, at, e, want)
	}
}

func sameEntries(a, b []api.Entry) bool {
	return slices.EqualFunc(a, b, func(x, y api.Entry) bool { return x.At == y.At && record.Same(x.R, y.R) })
}

// plain is a log as the document tells it, without a thought of speed: the records of each sector that was ever filled, and what the disk should have.
type plain struct {
	base, n, epoch, low, first, open int
	filled                           map[int][]api.Rec
	disk                             []string
}

func newPlain(base, n int, disk []string) *plain {
	return &plain{base: base, n: n, epoch: 1, low: 1, first: 1, open: 1, filled: map[int][]api.Rec{}, disk: disk}
}

func (p *plain) append(t *testing.T, r api.Rec) (int, api.Errno) {
	t.Helper()
	body, number := printed(t, p.filled[p.open]...), p.open
	if body != "" && len(body)+len(printed(t, r)) > 112 {
		body, number = "", number+1
	}
	if body == "" && number >= p.low+p.n {
		return 0, api.ErrFull
	}
	p.open = number
	p.filled[number] = append(p.filled[number], r)
	return 128*number + len(body), api.OK
}

func (p *plain) flush(t *testing.T) {
	t.Helper()
	if len(p.filled[p.open]) > 0 {
		p.open++
	}
	for ; p.first < p.open; p.first++ {
		p.disk[p.base+p.first%p.n] = packed(t, uint32(p.epoch), p.first, printed(t, p.filled[p.first]...))
	}
}

func (p *plain) cut(low int) api.Errno {
	if low < p.low || low > p.first {
		return api.ErrRange
	}
	p.low = low
	return api.OK
}

func (p *plain) room() int {
	if len(p.filled[p.open]) > 0 {
		return p.low + p.n - p.open - 1
	}
	return p.low + p.n - p.open
}

func (p *plain) scan(t *testing.T, from int) []api.Entry {
	t.Helper()
	var list []api.Entry
	for number := p.low; number <= p.open; number++ {
		at := 128 * number
		for _, r := range p.filled[number] {
			if at >= from {
				list = append(list, api.Entry{At: at, R: r})
			}
			at += len(printed(t, r))
		}
	}
	return list
}

// wantLog holds what a log tells of itself against the plain one.
func wantLog(t *testing.T, what string, l *wal.Log, p *plain) {
	t.Helper()
	if l.Low() != p.low || l.Next() != p.open || l.Room() != p.room() || l.Epoch() != p.epoch {
		t.Fatalf("%s: Low %d, Next %d, Room %d, Epoch %d, not %d, %d, %d, %d",
			what, l.Low(), l.Next(), l.Room(), l.Epoch(), p.low, p.open, p.room(), p.epoch)
	}
	for _, at := range []int{math.MinInt, -129, -1, 0, 128*p.first - 128, 128*p.first - 1, 128 * p.first, 128*p.first + 127, 128 * (p.open + 1), math.MaxInt} {
		if got := l.Safe(at); got != (at < 128*p.first) {
			t.Fatalf("%s: Safe(%d): %v, with first %d", what, at, got, p.first)
		}
	}
	if got, want := l.Scan(0), p.scan(t, 0); !sameEntries(got, want) {
		t.Fatalf("%s: Scan(0): %+v, not %+v", what, got, want)
	}
}

// wantEachPlace holds Read and Scan of each place, and of many that are none, against the plain log.
func wantEachPlace(t *testing.T, what string, l *wal.Log, p *plain) {
	t.Helper()
	wantLog(t, what, l, p)
	all := p.scan(t, 0)
	places := []int{math.MinInt, math.MinInt + 1, -1 << 32, -129, -128, -127, -1, 0, 1, 1 << 31, 1 << 40, math.MaxInt - 127, math.MaxInt}
	for at := max(2, 128*(p.low-2)); at < 128*(p.open+p.n+2); at++ {
		places = append(places, at)
	}
	slices.Sort(places)
	next := 0 // the first record from the place on
	for _, at := range places {
		for next < len(all) && all[next].At < at {
			next++
		}
		if got := l.Scan(at); !sameEntries(got, all[next:]) {
			t.Fatalf("%s: Scan(%d): %+v, not %+v", what, at, got, all[next:])
		}
		r, e := l.Read(at)
		if next < len(all) && all[next].At == at {
			if e != api.OK || !record.Same(r, all[next].R) {
				t.Fatalf("%s: Read(%d): %+v, %d, not %+v", what, at, r, e, all[next].R)
			}
		} else if e != api.ErrNone || !record.Same(r, api.Rec{}) {
			t.Fatalf("%s: Read(%d): %+v, %d, not ErrNone", what, at, r, e)
		}
	}
}

// wantDisk holds each sector of the disk against what the plain log wrote.
func wantDisk(t *testing.T, what string, d *disk.Disk, p *plain) {
	t.Helper()
	if !slices.Equal(sectors(t, d), p.disk) {
		t.Fatalf("%s: the disk has other sectors", what)
	}
}

// both does the same to a log and to the plain one.
type both struct {
	d *disk.Disk
	l *wal.Log
	p *plain
}

func newBoth(t *testing.T, size, base, n int) both {
	t.Helper()
	d := newDisk(t, size)
	return both{d, newLog(t, d, base, n), newPlain(base, n, sectors(t, d))}
}

func (b both) append(t *testing.T, list ...api.Rec) {
	t.Helper()
	for _, r := range list {
		want, f := b.p.append(t, r)
		if at, e := b.l.Append(r); at != want || e != f {
			t.Fatalf("Append(%+v): %d, %d, not %d, %d", r, at, e, want, f)
		}
	}
}

func (b both) flush(t *testing.T) {
	t.Helper()
	b.p.flush(t)
	want(t, "Flush", b.l.Flush(), api.OK)
	if n := b.d.Waiting(); n != 0 {
		t.Fatalf("behind Flush %d writes wait", n)
	}
	wantDisk(t, "behind Flush", b.d, b.p)
}

func (b both) cut(t *testing.T, low int) {
	t.Helper()
	want(t, "Cut("+strconv.Itoa(low)+")", b.l.Cut(low), b.p.cut(low))
}

// goRound fills sectors, one a flush, and cuts off what is behind by keep, until the sector upto is the open one.
func (b both) goRound(t *testing.T, upto, keep int) {
	t.Helper()
	for b.p.open < upto {
		b.append(t, kinds()[b.p.open%9], commit(b.p.open))
		b.flush(t)
		if b.p.first-keep > b.p.low {
			b.cut(t, b.p.first-keep)
		}
	}
}

// The chapter's example.

func TestExample(t *testing.T) {
	d := newDisk(t, 8)
	l := newLog(t, d, 0, 8)
	wantAppend(t, l, begin(), 128)
	wantAppend(t, l, begin(), 129)
	want(t, "Flush", l.Flush(), api.OK)
	wantAppend(t, l, begin(), 256)
	d.Arm(1)
	want(t, "Flush", l.Flush(), api.ErrDead)
	d.Crash([]uint8{0})
	m := opened(t, d, 0, 8, 1)
	if n := len(m.Scan(0)); n != 2 || m.Epoch() != 2 || m.Next() != 2 {
		t.Errorf("%d records, Epoch %d, Next %d, not 2, 2, 2", n, m.Epoch(), m.Next())
	}
}

// P5.1

func TestANewLogHasNoRecords(t *testing.T) {
	for _, n := range []int{8, 9, 63, 64} {
		for _, base := range []int{0, 1, 5, 100} {
			b := newBoth(t, base+n, base, n) // the disk ends where the ring ends
			wantEachPlace(t, "a new log", b.l, b.p)
			b.append(t, kinds()...)
			b.flush(t)
			wantEachPlace(t, "a log with records", b.l, b.p)
		}
	}
	newLog(t, newDisk(t, 512), 448, 64)
}

func TestNewTouchesNoDisk(t *testing.T) {
	d := newDisk(t, 9)
	for i := range 9 { // an old log's sectors, which a new log knows nothing of
		put(t, d, i, packed(t, 7, i, "\x05"))
	}
	was := sectors(t, d)
	d.Arm(0)
	l := newLog(t, d, 1, 8)
	wantLog(t, "a log over old sectors", l, newPlain(1, 8, nil))
	if d.Dead() || d.Waiting() != 0 || !slices.Equal(sectors(t, d), was) {
		t.Error("the disk was touched")
	}
	want(t, "Sync", d.Sync(), api.ErrDead)
	wantLog(t, "a log without power", newLog(t, d, 1, 8), newPlain(1, 8, nil))
}

// misfits are places and numbers of sectors that a log on a disk of 20 hasn't.
func misfits() [][2]int {
	list := [][2]int{
		{-1, 8}, {-1, 21}, {-8, 8}, {math.MinInt, 8}, {math.MinInt, 64},
		{13, 8}, {12, 9}, {1, 20}, {0, 21}, {20, 8}, {0, 64}, {21, 8}, {512, 8}, {1 << 32, 8}, {math.MaxInt, 8}, {math.MaxInt - 7, 8}, {math.MaxInt - 8, 64},
	}
	for _, n := range []int{7, 6, 1, 0, -1, -7, -8, -64, 65, 66, 1 << 32, 1<<32 + 8, math.MinInt, math.MaxInt} {
		list = append(list, [2]int{0, n}, [2]int{-1, n}, [2]int{3, n}, [2]int{math.MaxInt, n}, [2]int{math.MinInt, n})
	}
	return list
}

func wantNoNew(t *testing.T, d *disk.Disk, base, n int, want api.Errno) {
	t.Helper()
	if l, e := wal.New(d, base, n); l != nil || e != want {
		t.Errorf("New(%d, %d): a log: %v, %d, not %d", base, n, l != nil, e, want)
	}
}

func wantNoOpen(t *testing.T, d *disk.Disk, base, n, low int, want api.Errno) {
	t.Helper()
	if l, e := wal.Open(d, base, n, low); l != nil || e != want {
		t.Errorf("Open(%d, %d, %d): a log: %v, %d, not %d", base, n, low, l != nil, e, want)
	}
}

func TestNewRefusesWhatMayNotBe(t *testing.T) {
	d := newDisk(t, 20)
	dead := newDisk(t, 20)
	dead.Arm(0)
	dead.Sync()
	for _, x := range misfits() {
		wantNoNew(t, d, x[0], x[1], api.ErrArg)
		wantNoNew(t, dead, x[0], x[1], api.ErrArg)
		wantNoNew(t, nil, x[0], x[1], api.ErrNil)
	}
	wantNoNew(t, nil, 0, 8, api.ErrNil)
	wantNoNew(t, &disk.Disk{}, 0, 8, api.ErrArg)
	great := newDisk(t, 512)
	for _, n := range []int{7, 65, 66, 512} {
		wantNoNew(t, great, 0, n, api.ErrArg)
	}
	wantNoNew(t, great, 449, 64, api.ErrArg)
	newLog(t, d, 12, 8)
	newLog(t, d, 0, 20)
}

// P5.2

const maxLow = 1 << 24

func TestOpenRefusesWhatMayNotBe(t *testing.T) {
	d := newDisk(t, 20)
	dead := newDisk(t, 20)
	dead.Arm(0)
	dead.Sync()
	lows := []int{0, -1, -2, maxLow + 1, maxLow + 2, 1 << 32, 1<<32 + 1, math.MinInt, math.MaxInt}
	for _, x := range misfits() {
		for _, low := range append(lows, 1, 2, maxLow) {
			wantNoOpen(t, nil, x[0], x[1], low, api.ErrNil)
			wantNoOpen(t, d, x[0], x[1], low, api.ErrArg)
			wantNoOpen(t, dead, x[0], x[1], low, api.ErrArg)
		}
	}
	for _, low := range lows {
		wantNoOpen(t, nil, 0, 8, low, api.ErrNil)
		wantNoOpen(t, d, 0, 8, low, api.ErrArg)
		wantNoOpen(t, dead, 0, 8, low, api.ErrArg)
	}
	for _, low := range []int{1, 2, maxLow - 1, maxLow} {
		wantNoOpen(t, nil, 0, 8, low, api.ErrNil)
		wantNoOpen(t, dead, 0, 8, low, api.ErrDead)
		p := newPlain(0, 8, nil)
		p.low, p.first, p.open = low, low, low
		wantLog(t, "a log opened on noughts", opened(t, d, 0, 8, low), p)
	}
	dead.Crash(nil)
	opened(t, dead, 0, 8, 1)
}

// laid is a disk with slabs of one Epoch, of the numbers low up to (not with) end, and the plain log of them.
func laid(t *testing.T, base, n, low, end int, epoch uint32) (*disk.Disk, *plain) {
	t.Helper()
	d := newDisk(t, base+n)
	p := newPlain(base, n, nil)
	p.low, p.first, p.open = low, end, end
	for number := low; number < end; number++ {
		p.filled[number] = []api.Rec{commit(number), kinds()[number%9]}
		put(t, d, base+number%n, packed(t, epoch, number, printed(t, p.filled[number]...)))
	}
	p.disk = sectors(t, d)
	p.epoch = 1
	if end > low {
		p.epoch = int(epoch) + 1
	}
	return d, p
}

// lows are numbers of sectors to open from: at each place of a ring of n, and at the edges.
func lows(n int) []int {
	list := []int{64, 65, 1000, maxLow - n, maxLow - 1, maxLow}
	for low := range n + 2 {
		list = append(list, low+1)
	}
	return list
}

func TestOpenTakesAllThatIsThere(t *testing.T) {
	for _, n := range []int{8, 11, 64} {
		for _, low := range lows(n) {
			for _, many := range []int{0, 1, 2, n - 1, n} {
				d, p := laid(t, low%3, n, low, low+many, 5)
				what := fmt.Sprintf("%d sectors of %d from %d on", many, n, low)
				b := both{d, opened(t, d, low%3, n, low), p}
				wantLog(t, what, b.l, p)
				if many == n { // a full one
					b.append(t, commit(1))
					b.cut(t, low+1)
				}
				b.append(t, commit(2))
				b.flush(t)
				wantLog(t, what+", and one more", b.l, p)
				if low == n {
					wantEachPlace(t, what+", and one more", b.l, p)
				}
			}
		}
	}
}

// misses are sectors that may lie at a number's place, and aren't those of the log.
func misses(t *testing.T, epoch uint32, number, n int) map[string]string {
	t.Helper()
	body := printed(t, commit(number))
	right := packed(t, epoch, number, body)
	return map[string]string{
		"noughts":                       slab.Zero(),
		"no slab":                       strings.Repeat("x", 128),
		"a turned bit":                  right[:127] + string([]byte{right[127] ^ 1}),
		"the sector of a round ago":     packed(t, epoch, number-n, body),
		"the sector of the round ahead": packed(t, epoch, number+n, body),
		"the next sector":               packed(t, epoch, number+1, body),
		"the sector ahead":              packed(t, epoch, number-1, body),
		"the sector 0":                  packed(t, epoch, 0, body),
		"its number and 2^31":           packed(t, epoch, number+1<<31, body),
		"an empty body":                 packed(t, epoch, number, ""),
		"a body that is no record":      packed(t, epoch, number, "\x00"),
		"a record cut off":              packed(t, epoch, number, body[:8]),
		"a byte behind its records":     packed(t, epoch, number, body+"\x00"),
		"a record that may not be":      packed(t, epoch, number, "\x05\x03\x00\x00\x00\x00\x00\x00\x00\x00"),
	}
}

func TestOpenStopsWhereASectorIsNot(t *testing.T) {
	for _, n := range []int{8, 13} {
		for _, low := range []int{1, 2, n, 3*n + 5, maxLow} {
			d, p := laid(t, 2, n, low, low+n, 9)
			all := p.scan(t, 0)
			for number := low; number < low+n; number++ {
				ahead := slices.DeleteFunc(slices.Clone(all), func(x api.Entry) bool { return x.At >= 128*number })
				for what, s := range misses(t, 9, number, n) {
					c := d.Copy()
					put(t, c, 2+number%n, s)
					l := opened(t, c, 2, n, low)
					if !sameEntries(l.Scan(0), ahead) || l.Next() != number || l.Room() != low+n-number || l.Epoch() != 10 || !l.Safe(128*number-1) || l.Safe(128*number) {
						t.Fatalf("%s as the sector %d from %d on: Next %d, Room %d, Epoch %d, %+v", what, number, low, l.Next(), l.Room(), l.Epoch(), l.Scan(0))
					}
				}
			}
		}
	}
}

func TestOpenGoesByRisingEpochs(t *testing.T) {
	for _, c := range []struct {
		epochs []uint32
		taken  int
	}{
		{[]uint32{1, 1, 1, 1, 1, 1, 1, 1}, 8},
		{[]uint32{0, 0, 1, 1, 2, 3, 3, 9}, 8},
		{[]uint32{1, 2, 3, 4, 5, 6, 7, 8}, 8},
		{[]uint32{0, 1 << 31, 1 << 31, math.MaxUint32 - 1, math.MaxUint32, math.MaxUint32, math.MaxUint32, math.MaxUint32}, 8},
		{[]uint32{2, 1, 1, 1, 1, 1, 1, 1}, 1},
		{[]uint32{2, 1, 2, 3, 4, 5, 6, 7}, 1},
		{[]uint32{1, 2, 1, 2, 2, 2, 2, 2}, 2},
		{[]uint32{5, 5, 5, 4, 5, 5, 5, 5}, 3},
		{[]uint32{1, 1, 5, 5, 4, 5, 6, 7}, 4},
		{[]uint32{1, 1, 1, 1, 1, 1, 1, 0}, 7},
		{[]uint32{1, 1 << 31, 1, 1, 1, 1, 1, 1}, 2},
		{[]uint32{math.MaxUint32, 0, 0, 0, 0, 0, 0, 0}, 1},
	} {
		for _, low := range []int{1, 8, 100, maxLow} {
			d := newDisk(t, 8)
			for i, epoch := range c.epochs {
				put(t, d, (low+i)%8, packed(t, epoch, low+i, "\x05"))
			}
			l := opened(t, d, 0, 8, low)
			if n := len(l.Scan(0)); n != c.taken || l.Next() != low+c.taken || l.Safe(128*l.Next()) || !l.Safe(128*l.Next()-1) {
				t.Errorf("Epochs %v from %d on: %d sectors, Next %d, not %d", c.epochs, low, n, l.Next(), c.taken)
			}
			if want := int(slices.Max(c.epochs)) + 1; l.Epoch() != want {
				t.Errorf("Epochs %v from %d on: Epoch %d, not %d", c.epochs, low, l.Epoch(), want)
			}
		}
	}
}

func TestTheEpochIsAboveThatOfAnySlab(t *testing.T) {
	const n, low = 8, 21
	body := printed(t, begin())
	for _, many := range []int{0, 1, 3, 7} { // sectors that are kept
		for number := low + many; number < low+n; number++ {
			for what, x := range map[string]api.Slab{
				"one that was let go":        {Epoch: 77, Index: uint32(number - n), Body: body},
				"one behind others":          {Epoch: 77, Index: uint32(number + 1), Body: body},
				"one of a round ahead":       {Epoch: 77, Index: uint32(number + n), Body: body},
				"one of no number":           {Epoch: 77, Index: 0, Body: body},
				"an empty one":               {Epoch: 77, Index: uint32(number)},
				"one that is no records":     {Epoch: 77, Index: uint32(number), Body: "text"},
				"one of the greatest number": {Epoch: 77, Index: math.MaxUint32, Body: body},
			} {
				d, _ := laid(t, 3, n, low, low+many, 5)
				put(t, d, 3+number%n, packed(t, x.Epoch, int(x.Index), x.Body))
				if l := opened(t, d, 3, n, low); l.Epoch() != 78 || l.Next() != low+many {
					t.Errorf("%s at %d, with %d that are kept: Epoch %d, Next %d, not 78, %d", what, number, many, l.Epoch(), l.Next(), low+many)
				}
			}
		}
	}
}

func TestTheEpochIsThatOfTheLogsOwnSectors(t *testing.T) {
	d := newDisk(t, 10)
	put(t, d, 0, packed(t, 50, 8, "\x05"))
	put(t, d, 9, packed(t, 60, 8, "\x05"))
	put(t, d, 4, strings.Repeat("\xff", 128)) // no slab, so its first bytes are no Epoch
	if l := opened(t, d, 1, 8, 1); l.Epoch() != 1 {
		t.Errorf("no slab: Epoch %d, not 1", l.Epoch())
	}
	put(t, d, 3, packed(t, 0, 2, "\x05"))
	if l := opened(t, d, 1, 8, 1); l.Epoch() != 1 {
		t.Errorf("a slab of Epoch 0: Epoch %d, not 1", l.Epoch())
	}
	for i := range 8 { // each of the log's own sectors
		c := d.Copy()
		put(t, c, 1+i, packed(t, 3, 77, ""))
		if l := opened(t, c, 1, 8, 1); l.Epoch() != 4 {
			t.Errorf("a slab of Epoch 3 at %d: Epoch %d, not 4", 1+i, l.Epoch())
		}
	}
}

// Behind the greatest Epoch there is none: what is written has to be kept all the same.
func TestTheGreatestEpoch(t *testing.T) {
	d := newDisk(t, 8)
	put(t, d, 1, packed(t, math.MaxUint32, 1, "\x05"))
	for i := range 5 {
		l := opened(t, d, 0, 8, 1)
		if l.Epoch() != math.MaxUint32+1 || len(l.Scan(0)) != i+1 {
			t.Fatalf("Epoch %d, %d records, not %d, %d", l.Epoch(), len(l.Scan(0)), math.MaxUint32+1, i+1)
		}
		wantAppend(t, l, begin(), 128*(i+2))
		want(t, "Flush", l.Flush(), api.OK)
	}
}

func TestOpenTouchesNoSector(t *testing.T) {
	d, p := laid(t, 1, 8, 3, 7, 2)
	put(t, d, 0, strings.Repeat("x", 128))
	was := sectors(t, d)
	d.Arm(0)
	for range 3 { // nor does it count: the Epoch is that of a log that writes
		wantLog(t, "opened again", opened(t, d, 1, 8, 3), p)
	}
	if d.Dead() || d.Waiting() != 0 || !slices.Equal(sectors(t, d), was) {
		t.Error("the disk was touched")
	}
	want(t, "Sync", d.Sync(), api.ErrDead)
}

// dice is a row of numbers that look like any ones, the same at each run.
type dice uint64

func (x *dice) below(n int) int {
	*x ^= *x << 13
	*x ^= *x >> 7
	*x ^= *x << 17
	return int(uint64(*x) >> 33 % uint64(n))
}

// anySector is a sector that a ring may have at a number's place: mostly one that is right.
func anySector(t *testing.T, x *dice, number, n int) string {
	bodies := []string{"", "\x00", "\x05\x04", "\x05", "\x05\x05", printed(t, commit(number)), printed(t, tables(4, 8)), strings.Repeat("\x05", 112)}
	body := bodies[3+x.below(5)]
	switch x.below(14) {
	case 0:
		return slab.Zero()
	case 1:
		return strings.Repeat("z", 128)
	case 2:
		body = bodies[x.below(3)]
	case 3:
		number += []int{-n, n, 1, -1}[x.below(4)]
	}
	return packed(t, uint32(2+x.below(3)/2), number, body)
}

// plainOpened is the log that the document says a disk has.
func plainOpened(t *testing.T, base, n, low int, disk []string) *plain {
	t.Helper()
	p := newPlain(base, n, disk)
	p.low = low
	taking, ahead := true, uint32(0)
	for number := low; number < low+n; number++ {
		x, e := slab.Unpack(disk[base+number%n])
		if e == api.OK {
			p.epoch = max(p.epoch, 1+int(x.Epoch))
		}
		list, f := record.All(x.Body)
		taking = taking && e == api.OK && int(x.Index) == number && f == api.OK && len(list) > 0 && x.Epoch >= ahead
		ahead = x.Epoch
		if !taking {
			continue
		}
		for _, entry := range list {
			p.filled[number] = append(p.filled[number], entry.R)
		}
		p.first = number + 1
	}
	p.first = max(p.first, low)
	p.open = p.first
	return p
}

func TestAnyDiskIsOpenedAsTheDocumentSays(t *testing.T) {
	x := dice(77)
	taken := map[int]int{}
	for round := range 4000 {
		n := 8 + x.below(3)
		base := x.below(3)
		low := 1 + x.below(40)
		d := newDisk(t, base+n+x.below(2))
		for i := range base {
			put(t, d, i, packed(t, 90, low, "\x05"))
		}
		for number := low; number < low+n; number++ {
			put(t, d, base+number%n, anySector(t, &x, number, n))
		}
		p := plainOpened(t, base, n, low, sectors(t, d))
		wantLog(t, fmt.Sprintf("the disk %d, %d sectors from %d on, from the sector %d on", round, n, base, low), opened(t, d, base, n, low), p)
		taken[p.first-low]++
	}
	for many := range 8 {
		if taken[many] == 0 {
			t.Errorf("the test has no disk of which %d sectors are taken", many)
		}
	}
}

// P5.3

func TestRecordsStandOneBehindTheOther(t *testing.T) {
	for i, r := range kinds() {
		for _, s := range kinds() {
			b := newBoth(t, 8, 0, 8)
			wantAppend(t, b.l, r, 128)
			if at := 128 + len(printed(t, r)); at+len(printed(t, s)) <= 128+112 {
				wantAppend(t, b.l, s, at)
			} else {
				wantAppend(t, b.l, s, 256)
			}
		}
		b := newBoth(t, 10, 2, 8)
		for j := range 6 {
			b.append(t, kinds()[i:]...)
			b.append(t, kinds()[:i]...)
			wantEachPlace(t, "records of each kind", b.l, b.p)
			if j == 3 {
				b.flush(t)
			}
			if j > 3 {
				b.cut(t, b.p.low+1)
			}
		}
	}
}

func TestABodyHas112Bytes(t *testing.T) {
	for _, r := range kinds() {
		size := len(printed(t, r))
		b := newBoth(t, 8, 0, 8)
		b.append(t, slices.Repeat([]api.Rec{begin()}, 112-size)...)
		wantAppend(t, b.l, r, 128+112-size) // just so
		wantAppend(t, b.l, begin(), 256)
		wantAppend(t, b.l, r, 257)

		b = newBoth(t, 8, 0, 8)
		b.append(t, slices.Repeat([]api.Rec{begin()}, 112-size+1)...)
		wantAppend(t, b.l, r, 256) // one more
		wantAppend(t, b.l, begin(), 256+size)
	}
	b := newBoth(t, 8, 0, 8)
	b.append(t, slices.Repeat([]api.Rec{commit(1)}, 11)...)
	b.append(t, update(1, 1), begin(), begin())
	b.append(t, slices.Repeat([]api.Rec{begin()}, 111)...)
	b.append(t, tables(4, 8), tables(4, 8), commit(1), tables(4, 8))
	wantEachPlace(t, "full bodies", b.l, b.p)
	b.flush(t)
	wantEachPlace(t, "full bodies, flushed", b.l, b.p)
	if l := opened(t, b.d, 0, 8, 1); !sameEntries(l.Scan(0), b.l.Scan(0)) || l.Next() != b.l.Next() {
		t.Error("opened, it is another log")
	}
}

func TestAppendRefusesRecordsThatMayNotBe(t *testing.T) {
	b := newBoth(t, 8, 0, 8)
	for range 9 {
		for _, r := range wrong() {
			wantNoAppend(t, b.l, r, api.ErrArg)
		}
		wantLog(t, "behind records that may not be", b.l, b.p)
		b.append(t, tables(4, 8))
	}
	if b.l.Room() != 0 {
		t.Fatalf("Room %d, not 0", b.l.Room())
	}
	wantNoAppend(t, b.l, tables(4, 8), api.ErrFull)
	for _, r := range wrong() { // ErrArg is named first
		wantNoAppend(t, b.l, r, api.ErrArg)
	}
	b.flush(t)
	for _, r := range wrong() {
		wantNoAppend(t, b.l, r, api.ErrArg)
	}
	wantEachPlace(t, "a full log", b.l, b.p)
}

// full is a log whose last sector has one record of 95 bytes.
func full(t *testing.T, base, n, low int) both {
	t.Helper()
	b := newBoth(t, base+n, base, n)
	b.goRound(t, low, 0)
	b.cut(t, b.p.first)
	for range n {
		b.append(t, tables(4, 8))
	}
	if b.p.open != low+n-1 || b.l.Next() != low+n-1 || b.l.Room() != 0 {
		t.Fatalf("Next %d, Room %d, not %d, 0", b.l.Next(), b.l.Room(), low+n-1)
	}
	return b
}

func TestAppendToAFullLog(t *testing.T) {
	for _, n := range []int{8, 9, 64} {
		for _, low := range []int{1, 2, n, n + 1, 2*n + 3} {
			b := full(t, 1, n, low)
			wantNoAppend(t, b.l, tables(4, 8), api.ErrFull)
			wantNoAppend(t, b.l, update(1, 3), api.ErrFull)
			wantLog(t, "a full log", b.l, b.p)
			b.append(t, commit(1)) // what still fits into the open sector is no matter of room
			wantNoAppend(t, b.l, commit(2), api.ErrFull)
			b.append(t, slices.Repeat([]api.Rec{begin()}, 8)...)
			wantNoAppend(t, b.l, begin(), api.ErrFull)
			wantLog(t, "a full log, to its last byte", b.l, b.p)
			wantNoCut(t, b.l, low+1) // none of it is safe
			wantNoAppend(t, b.l, begin(), api.ErrFull)
			b.flush(t)
			wantNoAppend(t, b.l, begin(), api.ErrFull) // the open sector is empty, and there is no room for it
			wantLog(t, "a full log, flushed", b.l, b.p)
			b.cut(t, low)
			wantNoAppend(t, b.l, begin(), api.ErrFull)
			b.cut(t, low+1)
			b.append(t, tables(4, 8))
			wantNoAppend(t, b.l, tables(4, 8), api.ErrFull)
			b.flush(t)
			wantNoAppend(t, b.l, begin(), api.ErrFull)
			b.cut(t, b.p.first)
			wantLog(t, "all let go", b.l, b.p)
			if b.l.Room() != n {
				t.Fatalf("Room %d, not %d", b.l.Room(), n)
			}
			b.append(t, kinds()...)
			b.flush(t)
			wantLog(t, "begun again", b.l, b.p)
		}
	}
}

func wantNoCut(t *testing.T, l *wal.Log, low int) {
	t.Helper()
	want(t, "Cut("+strconv.Itoa(low)+")", l.Cut(low), api.ErrRange)
}

func TestAFlushEndsTheOpenSectorSoonerOrLater(t *testing.T) {
	for _, n := range []int{8, 64} { // one record a sector, by flushes
		b := newBoth(t, n, 0, n)
		for i := range n {
			wantAppend(t, b.l, begin(), 128*(i+1))
			want(t, "Flush", b.l.Flush(), api.OK)
		}
		wantNoAppend(t, b.l, begin(), api.ErrFull)
	}
}

func TestAllButFlushDoesWithoutThePower(t *testing.T) {
	b := newBoth(t, 8, 0, 8)
	b.append(t, kinds()...)
	b.flush(t)
	b.d.Arm(0)
	want(t, "Sync", b.d.Sync(), api.ErrDead)
	b.append(t, kinds()...)
	b.cut(t, 2)
	wantEachPlace(t, "a log without power", b.l, b.p)
	wantNoAppend(t, b.l, api.Rec{}, api.ErrArg)
	wantNoCut(t, b.l, b.p.first+1)
	want(t, "Flush", b.l.Flush(), api.ErrDead)
	b.d.Crash([]uint8{1})
	wantDisk(t, "behind it", b.d, b.p)
}

// P5.4

func TestAFlushOfNothing(t *testing.T) {
	d := newDisk(t, 10)
	l := newLog(t, d, 0, 8)
	other := func() {
		if e := d.Write(9, strings.Repeat("w", 128)); e != api.OK {
			t.Fatalf("disk.Write: %d", e)
		}
	}
	for i := range 3 {
		other()
		want(t, "Flush of nothing", l.Flush(), api.OK)
		if d.Waiting() != 1 {
			t.Errorf("there was a sync, or a write: %d wait", d.Waiting())
		}
		d.Arm(0)
		want(t, "Flush of nothing with a fuse of 0", l.Flush(), api.OK)
		if d.Dead() {
			t.Error("the power is gone")
		}
		want(t, "Sync", d.Sync(), api.ErrDead)
		want(t, "Flush of nothing without power", l.Flush(), api.OK)
		if l.Next() != i+1 {
			t.Errorf("Next %d, not %d", l.Next(), i+1)
		}
		d.Crash(nil)
		wantAppend(t, l, begin(), 128*(i+1))
		want(t, "Flush", l.Flush(), api.OK)
	}
	d.Arm(0)
	want(t, "Flush of nothing, opened", opened(t, d, 0, 8, 1).Flush(), api.OK)
}

// unborne flushes with each fuse that doesn't bear it, and holds what was written by then, and the log, against the plain one. It leaves the disk as it was.
func unborne(t *testing.T, b both, many int) {
	t.Helper()
	for fuse := range many + 1 {
		what := fmt.Sprintf("a flush of %d sectors, %d borne", many, fuse)
		b.d.Arm(fuse)
		want(t, what, b.l.Flush(), api.ErrDead)
		if !b.d.Dead() || b.d.Waiting() != fuse {
			t.Fatalf("%s: %d writes wait", what, b.d.Waiting())
		}
		wantLog(t, what, b.l, b.p)
		kept := b.d.Copy()
		kept.Crash([]uint8{1})
		disk := slices.Clone(b.p.disk)
		for number := b.p.first; number < b.p.first+fuse; number++ {
			disk[b.p.base+number%b.p.n] = packed(t, uint32(b.p.epoch), number, printed(t, b.p.filled[number]...))
		}
		if !slices.Equal(sectors(t, kept), disk) {
			t.Fatalf("%s: the disk has other sectors than the first ones", what)
		}
		want(t, what+", again", b.l.Flush(), api.ErrDead)
		b.d.Crash(nil)
		wantDisk(t, what, b.d, b.p)
	}
}

func TestAFlushWritesEachSectorOnceInOrder(t *testing.T) {
	for _, n := range []int{8, 64} {
		for _, base := range []int{0, 3} {
			b := newBoth(t, base+n+2, base, n)
			put(t, b.d, base+n+1, strings.Repeat("z", 128)) // a sector behind the ring
			b.p.disk = sectors(t, b.d)
			for round := range n {
				many := 1 + round%7
				b.fill(t, many, round+1)
				unborne(t, b, many)
				b.d.Arm(many + 1)
				b.flush(t)
				want(t, "a sync behind a flush and its fuse", b.d.Sync(), api.ErrDead) // it had no write, and no sync, too few
				b.d.Crash([]uint8{2})
				wantDisk(t, "behind a crash", b.d, b.p)
				wantLog(t, "behind a flush", b.l, b.p)
				b.cut(t, b.p.first-round%2)
			}
		}
	}
}

func TestALogThatHadNoPowerGoesOn(t *testing.T) {
	b := newBoth(t, 8, 0, 8)
	b.append(t, kinds()...)
	many := b.p.open
	for fuse := range many + 1 {
		b.d.Arm(fuse)
		want(t, "Flush", b.l.Flush(), api.ErrDead)
		b.append(t, begin())
		wantEachPlace(t, "behind a flush that wasn't borne", b.l, b.p)
		b.d.Crash([]uint8{0, 2})
	}
	b.p.disk = sectors(t, b.d)
	b.flush(t)
	wantEachPlace(t, "behind one that was", b.l, b.p)
}

func TestSafeIsByTheSector(t *testing.T) {
	b := newBoth(t, 8, 0, 8)
	for _, at := range []int{math.MinInt, -1, 0, 1, 127} { // places ahead of all sectors
		if !b.l.Safe(at) {
			t.Errorf("a new log: Safe(%d): false", at)
		}
	}
	for _, at := range []int{128, 129, 255, 256, math.MaxInt} {
		if b.l.Safe(at) {
			t.Errorf("a new log: Safe(%d): true", at)
		}
	}
	b.append(t, tables(4, 8), tables(4, 8))
	for at, safe := range map[int]bool{127: true, 128: false, 255: false, 256: false} {
		if b.l.Safe(at) != safe {
			t.Errorf("ahead of the flush: Safe(%d): %v", at, !safe)
		}
	}
	b.flush(t)
	b.append(t, begin())
	b.cut(t, 2) // safe is safe, kept or not
	for at, safe := range map[int]bool{-1: true, 128: true, 255: true, 256: true, 383: true, 384: false, 385: false} {
		if b.l.Safe(at) != safe {
			t.Errorf("behind the flush: Safe(%d): %v", at, !safe)
		}
	}
}

// P5.5

func TestEachPlaceOfARingThatIsGoneRound(t *testing.T) {
	for _, x := range []struct{ base, n, upto, keep int }{
		{0, 8, 5, 9}, {0, 8, 30, 3}, {5, 8, 31, 6}, {1, 9, 40, 4}, {2, 64, 200, 20},
	} {
		b := newBoth(t, x.base+x.n, x.base, x.n)
		b.goRound(t, x.upto, x.keep)
		wantEachPlace(t, "all safe", b.l, b.p)
		b.append(t, update(3, 16), tables(2, 1), update(4, 5), commit(5), commit(6))
		wantEachPlace(t, "two sectors that aren't", b.l, b.p)
		wantSameWhenOpened(t, b)
	}
}

// wantSameWhenOpened flushes, opens, and holds what comes against the log that wrote it.
func wantSameWhenOpened(t *testing.T, b both) {
	t.Helper()
	b.flush(t)
	l := opened(t, b.d, b.p.base, b.p.n, b.p.low)
	b.p.epoch++
	wantEachPlace(t, "opened", l, b.p)
	b.p.epoch--
}

func TestCutAtEachLow(t *testing.T) {
	for _, from := range []int{1, 2, 8, 20} { // what was cut off before
		for low := from - 2; low < from+8; low++ {
			b := newBoth(t, 11, 2, 8)
			b.goRound(t, from, 0)
			b.cut(t, from)
			b.goRound(t, from+4, 99)
			b.append(t, tables(4, 8), tables(4, 8)) // two sectors that aren't safe
			b.cut(t, low)
			wantEachPlace(t, fmt.Sprintf("cut from %d at %d", from, low), b.l, b.p)
			b.cut(t, low)
			b.cut(t, low-1)
			wantEachPlace(t, fmt.Sprintf("cut from %d at %d, and once more", from, low), b.l, b.p)
			wantDisk(t, "cut", b.d, b.p) // what is let go isn't touched
			wantSameWhenOpened(t, b)
			for _, far := range []int{0, -1, math.MinInt, b.p.first + 1, b.p.first + 8, 1 << 32, math.MaxInt} {
				wantNoCut(t, b.l, far)
			}
			b.cut(t, b.p.first)
			wantEachPlace(t, "nothing is kept", b.l, b.p)
			wantSameWhenOpened(t, b)
			b.append(t, commit(3))
			wantEachPlace(t, "and one record", b.l, b.p)
		}
	}
}

func TestCutOfALogThatWasOpened(t *testing.T) {
	for _, low := range []int{1, 7, maxLow} {
		for cut := low - 1; cut <= low+5; cut++ {
			d, p := laid(t, 1, 8, low, low+4, 3)
			b := both{d, opened(t, d, 1, 8, low), p}
			b.append(t, commit(8))
			b.cut(t, cut)
			wantLog(t, fmt.Sprintf("opened from %d on, cut at %d", low, cut), b.l, p)
		}
	}
}

func TestRoomIsSectorsThatCanBeBegun(t *testing.T) {
	for _, n := range []int{8, 64} {
		b := newBoth(t, n, 0, n)
		for room := n; room > 0; room-- {
			if b.l.Room() != room {
				t.Fatalf("Room %d, not %d", b.l.Room(), room)
			}
			if room%3 == 0 { // a flush takes none
				b.flush(t)
			}
			b.append(t, tables(4, 8))
			if b.l.Room() != room-1 {
				t.Fatalf("Room %d, not %d", b.l.Room(), room-1)
			}
			b.append(t, commit(1)) // nor does what has room in its sector
		}
		wantLog(t, "a log without room", b.l, b.p)
	}
}

func TestWhatIsToldIsNewMemory(t *testing.T) {
	given := tables(3, 5)
	b := newBoth(t, 8, 0, 8)
	b.append(t, tables(3, 5))
	at, e := b.l.Append(given)
	if e != api.OK {
		t.Fatalf("Append: %d", e)
	}
	b.p.append(t, tables(3, 5))
	if !record.Same(given, tables(3, 5)) {
		t.Error("Append changed what it was given")
	}
	clear(given.Txns)
	clear(given.Pages)
	wantLog(t, "behind a change of what was given", b.l, b.p)
	for range 2 {
		for _, x := range b.l.Scan(0) {
			clear(x.R.Txns)
			clear(x.R.Pages)
		}
		r, _ := b.l.Read(at)
		clear(r.Txns)
		clear(r.Pages)
		list := b.l.Scan(0)
		_ = append(list[:1], api.Entry{})
		wantEachPlace(t, "behind changes of what was told", b.l, b.p)
		b.flush(t)
	}
	list := b.l.Scan(0)
	clear(list[0].R.Txns)
	if !record.Same(list[1].R, tables(3, 5)) {
		t.Error("two records of one answer share their rows")
	}
}

func TestANilLog(t *testing.T) {
	var l *wal.Log
	for range 2 {
		for _, r := range append(wrong(), kinds()...) {
			wantNoAppend(t, l, r, api.ErrNil)
		}
		want(t, "Flush", l.Flush(), api.ErrNil)
		for _, n := range []int{math.MinInt, -1, 0, 1, 128, math.MaxInt} {
			want(t, "Cut", l.Cut(n), api.ErrNil)
			if r, e := l.Read(n); e != api.ErrNil || !record.Same(r, api.Rec{}) {
				t.Errorf("Read(%d): %+v, %d, not ErrNil", n, r, e)
			}
			if l.Safe(n) || len(l.Scan(n)) != 0 {
				t.Errorf("Safe(%d): %v, Scan: %+v", n, l.Safe(n), l.Scan(n))
			}
		}
		if l.Low() != 0 || l.Next() != 0 || l.Room() != 0 || l.Epoch() != 0 {
			t.Errorf("Low %d, Next %d, Room %d, Epoch %d", l.Low(), l.Next(), l.Room(), l.Epoch())
		}
	}
}

func TestALogThatNewDidNotMakeHasNoSectors(t *testing.T) {
	l := &wal.Log{}
	wantNoAppend(t, l, commit(0), api.ErrArg)
	wantNoAppend(t, l, commit(1), api.ErrFull)
	want(t, "Flush", l.Flush(), api.OK)
	wantNoCut(t, l, 1)
	for _, n := range []int{math.MinInt, -1, 0, 1, 128, math.MaxInt} {
		if _, e := l.Read(n); e != api.ErrNone || len(l.Scan(n)) != 0 {
			t.Errorf("Read(%d): %d, Scan: %+v", n, e, l.Scan(n))
		}
	}
	if l.Low() != 0 || l.Next() != 0 || l.Room() != 0 || l.Epoch() != 0 {
		t.Errorf("Low %d, Next %d, Room %d, Epoch %d", l.Low(), l.Next(), l.Room(), l.Epoch())
	}
}

func TestLogsOfOneDiskLeaveEachOtherAlone(t *testing.T) {
	d := newDisk(t, 24)
	logs := []both{
		{d, newLog(t, d, 0, 8), newPlain(0, 8, sectors(t, d))},
		{d, newLog(t, d, 8, 16), newPlain(8, 16, sectors(t, d))},
	}
	for round := range 60 {
		b := logs[round*7%5%2]
		b.append(t, kinds()[round%9], tables(1, round%9))
		b.p.disk = sectors(t, d)
		b.flush(t)
		b.cut(t, max(b.p.low, b.p.first-5))
		for i, other := range logs {
			wantLog(t, fmt.Sprintf("the log %d, in the round %d", i, round), other.l, other.p)
			l := opened(t, d, other.p.base, other.p.n, other.p.low)
			if !sameEntries(l.Scan(0), other.p.scan(t, 0)) {
				t.Fatalf("the log %d, opened in the round %d, has other records", i, round)
			}
		}
	}
}

// P5.6

// fates is the picks of n writes that a number tells.
func fates(number, n int) []uint8 {
	list := make([]uint8, n)
	for i := range list {
		list[i] = uint8(number % 3)
		number /= 3
	}
	return list
}

// survivors is how many of the first writes are all safe behind a crash.
func survivors(picks []uint8, waiting int) int {
	n := 0
	for n < waiting && len(picks) > 0 && picks[n%len(picks)]%3 == 1 {
		n++
	}
	return n
}

func power(base, n int) int {
	p := 1
	for range n {
		p *= base
	}
	return p
}

// crashed is a copy of a disk behind a crash, and the plain log that must be there: what was safe, and of the other sectors those that all writes up to theirs made safe. It holds what is opened, twice, against it.
func crashed(t *testing.T, what string, d *disk.Disk, p *plain, picks []uint8) both {
	t.Helper()
	waiting := d.Waiting()
	c := d.Copy()
	c.Crash(picks)
	q := newPlain(p.base, p.n, sectors(t, c))
	q.low = p.low
	q.first = p.first + survivors(picks, waiting)
	q.open = q.first
	for number := p.low; number < q.first; number++ {
		q.filled[number] = slices.Clone(p.filled[number])
	}
	for i := range p.n {
		if x, e := slab.Unpack(q.disk[p.base+i]); e == api.OK {
			q.epoch = max(q.epoch, 1+int(x.Epoch))
		}
	}
	wantLog(t, what, opened(t, c, p.base, p.n, p.low), q)
	l := opened(t, c, p.base, p.n, p.low)
	wantLog(t, what+", opened once more", l, q)
	wantDisk(t, what, c, q)
	return both{c, l, q}
}

// fill appends records that fill so many sectors.
func (b both) fill(t *testing.T, many, txn int) {
	t.Helper()
	for i := range many {
		b.append(t, tables(4, 8), commit(txn*10+i+1))
	}
	if b.p.open != b.p.first+many-1 {
		t.Fatalf("the test fills %d sectors, not %d", b.p.open-b.p.first+1, many)
	}
}

// everyCrash fills sectors, and flushes them with each fuse that doesn't bear it; behind each crash that may come of it, further is called.
func everyCrash(t *testing.T, what string, b both, many, txn int, further func(what string, b both)) {
	t.Helper()
	b.fill(t, many, txn)
	for fuse := range many + 1 {
		d := b.d.Copy()
		b.d.Arm(fuse)
		want(t, what, b.l.Flush(), api.ErrDead)
		wantLog(t, what+", without power", b.l, b.p)
		for crash := range power(3, fuse) {
			picks := fates(crash, fuse)
			now := fmt.Sprintf("%s, %d sectors, crashed with %v", what, many, picks)
			further(now, crashed(t, now, b.d, b.p, picks))
		}
		b.d.Crash(nil) // the fuse goes; what was there is there again
		if !slices.Equal(sectors(t, d), sectors(t, b.d)) {
			t.Fatalf("%s: the test has not the disk that it had", what)
		}
	}
}

// ready is a log with so many safe sectors behind the ones that were let go.
func ready(t *testing.T, base, n, low, safe int) both {
	t.Helper()
	b := newBoth(t, base+n, base, n)
	b.goRound(t, low, 0)
	b.cut(t, low)
	b.goRound(t, low+safe, 99)
	return b
}

func TestEveryCrashOfAFlush(t *testing.T) {
	for _, n := range []int{8, 64} {
		for _, low := range []int{1, 2, n - 1, n, 3*n + 1} {
			for _, safe := range []int{0, 1, 2, n - 4} {
				for many := 1; many <= 4; many++ {
					b := ready(t, 2, n, low, safe)
					what := fmt.Sprintf("%d safe ones from %d on, of %d", safe, low, n)
					everyCrash(t, what, b, many, 1, func(string, both) {})
				}
			}
		}
	}
}

func TestEveryCrashOfAFlushBehindACrash(t *testing.T) {
	for _, x := range []struct{ low, safe, many, then int }{
		{1, 0, 3, 1}, {1, 0, 3, 2}, {1, 0, 2, 3}, {1, 1, 3, 3}, {5, 2, 3, 2}, {8, 5, 3, 3}, {16, 0, 3, 3}, {7, 4, 4, 1}, {20, 1, 4, 3},
	} {
		what := fmt.Sprintf("%d safe ones from %d on", x.safe, x.low)
		everyCrash(t, what, ready(t, 1, 8, x.low, x.safe), x.many, 1, func(what string, b both) {
			if b.p.first+x.then > b.p.low+8 {
				return
			}
			everyCrash(t, what, b, x.then, 2, func(string, both) {})
		})
	}
}

func TestEveryCrashOfThreeFlushes(t *testing.T) {
	for _, low := range []int{1, 4, 8} {
		everyCrash(t, "first", ready(t, 0, 8, low, 1), 2, 1, func(what string, b both) {
			everyCrash(t, what, b, 2, 2, func(what string, b both) {
				everyCrash(t, what, b, 2, 3, func(what string, b both) {
					b.append(t, commit(99))
					b.flush(t)
					crashed(t, what+", and a flush that was borne", b.d, b.p, nil)
				})
			})
		})
	}
}

func TestWhatACrashKeptBehindALostSectorDoesNotComeBack(t *testing.T) {
	for lost := range 4 {
		b := ready(t, 0, 8, 3, 1)
		b.fill(t, 4, 1)
		b.d.Arm(4)
		want(t, "Flush", b.l.Flush(), api.ErrDead)
		picks := []uint8{1, 1, 1, 1}
		picks[lost] = 0
		b = crashed(t, "one lost", b.d, b.p, picks)
		for i := range 4 { // up to those sectors, and over them
			b.append(t, commit(50+i))
			b.flush(t)
			b = crashed(t, fmt.Sprintf("the sector %d lost, %d written again", lost, i), b.d, b.p, nil)
		}
	}
}

// TestALongHistory goes round the ring many times, with records of all kinds, cuts, flushes and crashes. One safe sector stays at least: it tells those behind it whether they are older.
func TestALongHistory(t *testing.T) {
	for seed := range 40 {
		x := dice(seed*104729 + 1)
		n, base := 8+x.below(4), x.below(3)
		b := newBoth(t, base+n, base, n)
		rounds, crashes := 0, 0
		for step := range 1500 {
			what := fmt.Sprintf("the seed %d, the step %d", seed, step)
			switch k := x.below(20); {
			case k < 12:
				r := []api.Rec{commit(step + 1), begin(), update(step+1, 1+x.below(16)), tables(x.below(5), x.below(9))}[x.below(4)]
				b.append(t, r)
			case k < 15:
				b.flush(t)
			case k < 18:
				if b.p.first > b.p.low {
					b.cut(t, b.p.low+x.below(b.p.first-b.p.low))
				}
			default:
				picks := make([]uint8, x.below(5))
				for i := range picks {
					picks[i] = uint8(1 + x.below(4)*x.below(2))
				}
				b = flushAndCrash(t, what, b, x.below(6), picks)
				crashes++
			}
			rounds = b.p.open / n
			wantLog(t, what, b.l, b.p)
		}
		if rounds < 3 || crashes < 50 {
			t.Fatalf("the seed %d: %d rounds, %d crashes", seed, rounds, crashes)
		}
	}
}

// flushAndCrash flushes with a fuse, and crashes, whether it was borne or not.
func flushAndCrash(t *testing.T, what string, b both, fuse int, picks []uint8) both {
	t.Helper()
	many := b.p.open - b.p.first
	if len(b.p.filled[b.p.open]) > 0 {
		many++
	}
	b.d.Arm(fuse)
	if many == 0 || fuse > many {
		b.flush(t)
	} else {
		want(t, what, b.l.Flush(), api.ErrDead)
		wantLog(t, what+", without power", b.l, b.p)
	}
	return crashed(t, what, b.d, b.p, picks)
}
