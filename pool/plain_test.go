package pool_test

import (
	"fmt"
	"slices"
	"strings"
	"testing"

	"careen/api"
	"careen/disk"
	"careen/pool"
	"careen/record"
	"careen/slab"
	"careen/store"
	"careen/wal"
)

// A pool as the document tells it, without a map, and what holds the package's one against it.

// spot is a frame that has a page.
type spot struct {
	number int
	page   api.Page
	dirty  bool
	since  int
}

// ground is a disk, with a store and a log on it.
type ground struct {
	d *disk.Disk
	s *store.Store
	l *wal.Log
}

// plain is a pool as the document tells it, over a ground of its own.
type plain struct {
	ground
	frames []*spot // nil: an empty one
	hand   int
}

func (p *plain) holds(i int) int {
	return slices.IndexFunc(p.frames, func(x *spot) bool { return x != nil && x.number == i })
}

func (p *plain) emptied(k int) api.Errno {
	if x := p.frames[k]; x.dirty {
		if !p.l.Safe(x.page.At) {
			if e := p.l.Flush(); e != api.OK {
				return e
			}
		}
		if e := p.s.Write(x.number, x.page); e != api.OK {
			return e
		}
	}
	p.frames[k] = nil
	return api.OK
}

func (p *plain) get(i int) (api.Page, api.Errno) {
	if i < 0 || i >= p.s.Pages() {
		return api.Page{}, api.ErrRange
	}
	if k := p.holds(i); k >= 0 {
		return p.frames[k].page, api.OK
	}
	k := slices.Index(p.frames, nil)
	if k < 0 {
		k = p.hand
		if e := p.emptied(k); e != api.OK {
			return api.Page{}, e
		}
		p.hand++
		if p.hand == len(p.frames) {
			p.hand = 0
		}
	}
	x, e := p.s.Read(i)
	if e != api.OK {
		return api.Page{}, e
	}
	p.frames[k] = &spot{number: i, page: x}
	return x, api.OK
}

func (p *plain) peek(i int) (api.Page, api.Errno) {
	if k := p.holds(i); k >= 0 {
		return p.frames[k].page, api.OK
	}
	return p.s.Read(i)
}

func (p *plain) put(i int, x api.Page) api.Errno {
	k := p.holds(i)
	if k < 0 {
		return api.ErrNone
	}
	if x.At < 0 || x.At > 1<<31-1 || len(x.Data) != 220 {
		return api.ErrForm
	}
	since := x.At
	if p.frames[k].dirty {
		since = p.frames[k].since
	}
	p.frames[k] = &spot{i, x, true, since}
	return api.OK
}

func (p *plain) evict(k int) api.Errno {
	if k < 0 || k >= len(p.frames) {
		return api.ErrRange
	}
	if p.frames[k] == nil {
		return api.ErrNone
	}
	return p.emptied(k)
}

func (p *plain) drop(i int) api.Errno {
	k := p.holds(i)
	if k < 0 {
		return api.ErrNone
	}
	p.frames[k] = nil
	return api.OK
}

func (p *plain) dirty() []api.PageRow {
	var list []api.PageRow
	for i := range 8 {
		if k := p.holds(i); k >= 0 && p.frames[k].dirty {
			list = append(list, api.PageRow{Page: i, Rec: p.frames[k].since})
		}
	}
	return list
}

// twins are a pool and its plain one, each on a ground of its own, to which the same is done.
type twins struct {
	ground
	p *pool.Pool
	q *plain
}

// made is a ground of noughts, with a log of the least size.
func made(t *testing.T, pages int) ground {
	t.Helper()
	return laid(t, pages, 8)
}

// laid is a ground of noughts: the store, and the log behind it.
func laid(t *testing.T, pages, log int) ground {
	t.Helper()
	n := store.Sectors(pages)
	d, e := disk.New(n + log)
	s, f := store.New(d, 0, pages)
	l, g := wal.New(d, n, log)
	if e != api.OK || f != api.OK || g != api.OK {
		t.Fatalf("a ground of %d pages: %d, %d, %d", pages, e, f, g)
	}
	return ground{d, s, l}
}

// born is twins on grounds of noughts.
func born(t *testing.T, pages, frames int) *twins {
	t.Helper()
	b := &twins{ground: made(t, pages), q: &plain{ground: made(t, pages), frames: make([]*spot, frames)}}
	p, e := pool.New(b.s, b.l, frames)
	if e != api.OK || p == nil {
		t.Fatalf("New of %d frames: a pool: %v, %d", frames, p != nil, e)
	}
	b.p = p
	return b
}

// both does the same to both grounds.
func (b *twins) both(f func(g ground)) {
	f(b.ground)
	f(b.q.ground)
}

// record appends a record of a page that hasn't been logged, and answers the page with it.
func (b *twins) record(t *testing.T, i, k int) api.Page {
	t.Helper()
	at := 0
	b.both(func(g ground) {
		x, e := g.l.Append(api.Rec{Kind: api.RUpdate, Txn: 1, Page: i, Before: "\x00", After: "a"})
		want(t, "Append", e, api.OK)
		at = x
	})
	return sample(at, k)
}

func (b *twins) get(t *testing.T, i int) api.Errno {
	t.Helper()
	x, e := b.p.Get(i)
	if y, f := b.q.get(i); x != y || e != f {
		t.Fatalf("Get(%d): %s, %d, not %s, %d", i, told(x), e, told(y), f)
	}
	return e
}

func (b *twins) put(t *testing.T, i int, x api.Page) api.Errno {
	t.Helper()
	e := b.p.Put(i, x)
	want(t, fmt.Sprintf("Put(%d, %s)", i, told(x)), e, b.q.put(i, x))
	return e
}

func (b *twins) evict(t *testing.T, k int) api.Errno {
	t.Helper()
	e := b.p.Evict(k)
	want(t, fmt.Sprintf("Evict(%d)", k), e, b.q.evict(k))
	return e
}

func (b *twins) drop(t *testing.T, i int) api.Errno {
	t.Helper()
	e := b.p.Drop(i)
	want(t, fmt.Sprintf("Drop(%d)", i), e, b.q.drop(i))
	return e
}

// same holds the twins against each other, by all that can be asked of them without a change.
func (b *twins) same(t *testing.T, what string) {
	t.Helper()
	if n := b.p.Frames(); n != len(b.q.frames) {
		t.Fatalf("%s: %d frames, not %d", what, n, len(b.q.frames))
	}
	for i := -1; i <= b.s.Pages(); i++ {
		if k, j := b.p.Holds(i), b.q.holds(i); k != j {
			t.Fatalf("%s: the frame of the page %d: %d, not %d", what, i, k, j)
		}
		x, e := b.p.Peek(i)
		if y, f := b.q.peek(i); x != y || e != f {
			t.Fatalf("%s: Peek(%d): %s, %d, not %s, %d", what, i, told(x), e, told(y), f)
		}
	}
	if got, rows := b.p.Dirty(), b.q.dirty(); !slices.Equal(got, rows) {
		t.Fatalf("%s: dirty: %v, not %v", what, got, rows)
	}
	wantSameGround(t, what, b.ground, b.q.ground)
}

// settle makes the hand to be seen: it gets all pages, each of which tells by its frame where the hand was.
func (b *twins) settle(t *testing.T, what string) {
	t.Helper()
	for i := range b.s.Pages() {
		b.get(t, i)
		if k, j := b.p.Holds(i), b.q.holds(i); k != j {
			t.Fatalf("%s: Get(%d) behind it: the frame %d, not %d", what, i, k, j)
		}
	}
}

// wantSameGround holds two grounds against each other: what they are now, and what crashes make of their disks.
func wantSameGround(t *testing.T, what string, a, b ground) {
	t.Helper()
	if a.s.Ticket() != b.s.Ticket() {
		t.Fatalf("%s: the ticket %d, not %d", what, a.s.Ticket(), b.s.Ticket())
	}
	x, y := a.l.Scan(0), b.l.Scan(0)
	if a.l.Next() != b.l.Next() || a.l.Room() != b.l.Room() || !sameRecords(x, y) {
		t.Fatalf("%s: another log: %d records, not %d, the next sector %d, not %d", what, len(x), len(y), a.l.Next(), b.l.Next())
	}
	for _, r := range x {
		if a.l.Safe(r.At) != b.l.Safe(r.At) {
			t.Fatalf("%s: the record at %d is safe: %v", what, r.At, a.l.Safe(r.At))
		}
	}
	if a.d.Dead() != b.d.Dead() || a.d.Waiting() != b.d.Waiting() {
		t.Fatalf("%s: dead %v, %d wait, not %v, %d", what, a.d.Dead(), a.d.Waiting(), b.d.Dead(), b.d.Waiting())
	}
	if !a.d.Dead() {
		wantSameSectors(t, what, a.d, b.d)
	}
	for _, picks := range [][]uint8{{0}, {1}, {2}, {0, 1}, {2, 0, 1}} {
		c, d := a.d.Copy(), b.d.Copy()
		c.Crash(picks)
		d.Crash(picks)
		wantSameSectors(t, fmt.Sprintf("%s, behind a crash by %v", what, picks), c, d)
	}
}

// sameRecords tells whether two logs have the same, at the same places.
func sameRecords(a, b []api.Entry) bool {
	return slices.EqualFunc(a, b, func(x, y api.Entry) bool { return x.At == y.At && record.Same(x.R, y.R) })
}

func wantSameSectors(t *testing.T, what string, a, b *disk.Disk) {
	t.Helper()
	for i := range a.Size() {
		x, _ := a.Read(i)
		if y, _ := b.Read(i); x != y {
			t.Fatalf("%s: another sector %d: %q, not %q", what, i, x, y)
		}
	}
}

func want(t *testing.T, what string, got, e api.Errno) {
	t.Helper()
	if got != e {
		t.Fatalf("%s: %d, not %d", what, got, e)
	}
}

func wantPage(t *testing.T, what string, got api.Page, e api.Errno, x api.Page) {
	t.Helper()
	if got != x || e != api.OK {
		t.Fatalf("%s: %s, %d, not %s", what, told(got), e, told(x))
	}
}

func wantNoPage(t *testing.T, what string, got api.Page, e, f api.Errno) {
	t.Helper()
	if got != (api.Page{}) || e != f {
		t.Fatalf("%s: %s, %d, not %d", what, told(got), e, f)
	}
}

func wantRows(t *testing.T, what string, got []api.PageRow, rows ...api.PageRow) {
	t.Helper()
	if !slices.Equal(got, rows) {
		t.Fatalf("%s: dirty: %v, not %v", what, got, rows)
	}
}

// told is a page in short.
func told(x api.Page) string {
	if len(x.Data) != 220 {
		return fmt.Sprintf("(%d, %d bytes)", x.At, len(x.Data))
	}
	return fmt.Sprintf("(%d, %q..)", x.At, x.Data[:4])
}

// sample is a page with a place; no two of them have the same bytes.
func sample(at, k int) api.Page {
	b := make([]byte, 220)
	for j := range b {
		b[j] = byte(k>>(8*(j%3))) + byte(j/3)
	}
	return api.Page{At: at, Data: string(b)}
}

// wrong are pages that aren't right.
func wrong() []api.Page {
	data := strings.Repeat("x", 220)
	return []api.Page{
		{}, {At: 1}, {Data: data[1:]}, {Data: data + "x"}, {At: 128, Data: strings.Repeat("x", 224)},
		{At: -1, Data: data}, {At: -1 << 31, Data: data}, {At: -1 << 63, Data: data},
		{At: 1 << 31, Data: data}, {At: 1 << 32, Data: data}, {At: 1<<63 - 1, Data: data},
	}
}

// torn makes a page's homes those of no page.
func torn(t *testing.T, g ground, i int) {
	t.Helper()
	x, e := slab.Pack(api.Slab{Epoch: 1, Index: uint32(2 * i), Body: "half of it"})
	want(t, "slab.Pack", e, api.OK)
	want(t, "a home of no page", g.d.Write(3+2*i, x), api.OK)
	want(t, "a home of no page", g.d.Sync(), api.OK)
}

// powerless takes a disk's power.
func powerless(g ground) {
	g.d.Arm(0)
	g.d.Sync()
}

// full is twins whose frames have the pages from 0 on, each of them dirty with a record that isn't safe.
func full(t *testing.T, pages, frames int) *twins {
	t.Helper()
	b := born(t, pages, frames)
	for i := range frames {
		want(t, "Get", b.get(t, i), api.OK)
		want(t, "Put", b.put(t, i, b.record(t, i, i)), api.OK)
	}
	b.same(t, "all frames full and dirty")
	return b
}
