package engine_test

import (
	"maps"
	"slices"
	"strings"

	"careen/api"
	"careen/cell"
)

// An engine as the document tells it, without its layers: a sector has what was meant by its bytes, a transaction the changes that stand one above the other, and at restart the whole log is looked through.

// What a sector of the plain disk may have, beside nothing.
type (
	logSheet struct {
		epoch, number int
		list          []api.Entry
	}
	half struct {
		ticket, which int
		page          api.Page // of which this is a half
	}
	head   struct{ ticket, page int }
	master struct {
		ticket int
		m      api.Master
	}
)

// power is what is thrown where it goes.
type power struct{}

type waiting struct {
	i int
	v any
}

type plainDisk struct {
	safe  []any
	waits []waiting
	fuse  int // below 0: none
	dead  bool
	borne int // so many writes and syncs in all
}

func (d *plainDisk) bear() {
	if d.fuse == 0 {
		d.dead = true
		panic(power{})
	}
	d.fuse = max(d.fuse-1, -1)
	d.borne++
}

func (d *plainDisk) write(i int, v any) {
	d.bear()
	d.waits = append(d.waits, waiting{i, v})
}

func (d *plainDisk) sync() {
	d.bear()
	for _, w := range d.waits {
		d.safe[w.i] = w.v
	}
	d.waits = nil
}

func (d *plainDisk) read(i int) any {
	v := d.safe[i]
	for _, w := range d.waits {
		if w.i == i {
			v = w.v
		}
	}
	return v
}

func (d *plainDisk) crash(picks []uint8) {
	for j, w := range d.waits {
		pick := 0
		if len(picks) > 0 {
			pick = int(picks[j%len(picks)]) % 3
		}
		switch pick {
		case 1:
			d.safe[w.i] = w.v
		case 2:
			d.safe[w.i] = nil
		}
	}
	d.waits, d.fuse, d.dead = nil, -1, false
}

type plainFrame struct {
	page  int // -1: none
	x     api.Page
	dirty bool
	since int
}

// change is one that stands: what undoes it.
type change struct {
	prev, page, off int
	before          string
}

type plainTxn struct {
	first, last int
	stack       []change
	marks       []int       // how many changes stood
	locks       map[int]int // by page
}

type plain struct {
	c api.Config
	d plainDisk

	low, first, open, used, epoch int
	list                          []api.Entry

	ticket  int
	frames  []plainFrame
	hand    int
	txns    map[int]*plainTxn
	step    int
	begin   int
	pending []api.Entry

	tape    []api.Entry
	upto    int
	crashes []api.Op
}

func newPlain(c api.Config) *plain {
	p := &plain{c: c, upto: 1}
	p.d = plainDisk{safe: make([]any, 2+c.Log+3+2*c.Pages), fuse: -1}
	p.restart()
	return p
}

// do is Do.
func (p *plain) do(o api.Op) api.Answer {
	if len(p.crashes) == 0 || o.Kind == api.OCrash || o.Kind == api.OZero {
		return p.once(o)
	}
	list := p.crashes
	p.crashes = nil
	p.d.fuse = max(list[0].N, 0)
	a := p.once(o)
	a.Down = true
	p.d.crash(list[0].Picks)
	for _, c := range list[1:] {
		p.d.fuse = max(c.N, 0)
		p.goes(p.restart)
		p.d.crash(c.Picks)
	}
	p.restart()
	return a
}

// goes does something, and tells whether the power was there to its end.
func (p *plain) goes(do func()) (ok bool) {
	defer func() {
		if x := recover(); x != nil {
			_ = x.(power)
		}
	}()
	do()
	return true
}

func (p *plain) once(o api.Op) (a api.Answer) {
	if !p.goes(func() { a.Data, a.Err = p.work(o) }) {
		return api.Answer{Err: api.ErrDead}
	}
	var rest []api.Entry
	for _, x := range p.pending {
		if x.At < 128*p.first {
			a.Acked = append(a.Acked, x.R.Txn)
		} else {
			rest = append(rest, x)
		}
	}
	p.pending = rest
	return a
}

func (p *plain) work(o api.Op) (string, api.Errno) {
	t := p.txns[o.Txn]
	if o.Kind >= api.ORead && o.Kind <= api.OAbort && t == nil {
		return "", api.ErrNone
	}
	switch o.Kind {
	case api.OBegin:
		return "", p.beginTxn(o.Txn)
	case api.ORead, api.OWrite, api.OAdd:
		return p.touch(t, o)
	case api.OMark:
		if len(t.marks) == 4 {
			return "", api.ErrFull
		}
		t.marks = append(t.marks, len(t.stack))
		return string(rune(len(t.marks) - 1)), api.OK
	case api.OBack:
		if o.N < 0 || o.N >= len(t.marks) {
			return "", api.ErrNone
		}
		t.marks = t.marks[:o.N+1]
		p.undo(o.Txn, t.marks[o.N])
	case api.OCommit:
		p.pending = append(p.pending, p.record(api.Rec{Kind: api.RCommit, Txn: o.Txn}))
		delete(p.txns, o.Txn)
	case api.OAbort:
		p.abort(o.Txn)
	case api.OFlush:
		p.flush()
	case api.OEvict:
		switch {
		case o.N < 0 || o.N >= len(p.frames):
			return "", api.ErrRange
		case p.frames[o.N].page < 0:
			return "", api.ErrNone
		}
		p.empty(o.N)
	default:
		return "", p.service(o)
	}
	return "", api.OK
}

// service is what has to do with no transaction.
func (p *plain) service(o api.Op) api.Errno {
	switch o.Kind {
	case api.OCheck:
		return p.checkOn()
	case api.OTrim:
		return p.trim()
	case api.OArchive:
		for _, x := range p.list {
			if n := x.At / 128; n >= p.upto && n < p.first {
				p.tape = append(p.tape, x)
			}
		}
		p.upto = max(p.upto, p.first)
	case api.OZero:
		if o.Page < 0 || o.Page >= p.c.Pages {
			return api.ErrRange
		}
		p.flush()
		x := p.peek(o.Page) // it is to be as it was
		if k := p.holds(o.Page); k >= 0 {
			p.frames[k] = plainFrame{page: -1}
		}
		p.writePage(o.Page, x)
	case api.OCrash:
		if len(p.crashes) == 8 {
			return api.ErrFull
		}
		o.Picks = slices.Clone(o.Picks)
		p.crashes = append(p.crashes, o)
	default:
		return api.ErrArg
	}
	return api.OK
}

func (p *plain) beginTxn(n int) api.Errno {
	switch {
	case n < 1 || n > 1<<31-1:
		return api.ErrArg
	case p.txns[n] != nil:
		return api.ErrOnce
	case len(p.txns) == 4 || p.room() < p.need()+1:
		return api.ErrFull
	}
	p.txns[n] = &plainTxn{locks: map[int]int{}}
	return api.OK
}

// touch reads, writes or adds.
func (p *plain) touch(t *plainTxn, o api.Op) (string, api.Errno) {
	n, mode := o.N, api.Shared
	switch o.Kind {
	case api.OWrite:
		n, mode = len(o.Data), api.Alone
	case api.OAdd:
		n, mode = 8, api.Alone
	}
	switch {
	case o.Page < 0 || o.Page >= p.c.Pages || n < 1 || n > 16 || o.Off < 0 || o.Off > 220-n:
		return "", api.ErrRange
	case p.taken(t, o.Page, mode):
		return "", api.ErrLock
	case mode == api.Alone && p.room() < p.need()+2:
		return "", api.ErrFull
	}
	t.locks[o.Page] = max(t.locks[o.Page], mode)
	old := p.get(o.Page).Data[o.Off : o.Off+n]
	text := o.Data
	switch o.Kind {
	case api.ORead:
		return old, api.OK
	case api.OAdd:
		f, _ := cell.Float(old)
		text = cell.Bytes(f + o.F)
	}
	c := change{t.last, o.Page, o.Off, old}
	x := p.record(api.Rec{Kind: api.RUpdate, Txn: o.Txn, Page: o.Page, Off: o.Off, Before: old, After: text})
	p.apply(x)
	t.stack = append(t.stack, c)
	if o.Kind == api.OWrite {
		text = ""
	}
	return text, api.OK
}

// taken tells whether somebody else has the page so that t can't have it.
func (p *plain) taken(t *plainTxn, page, mode int) bool {
	for _, other := range p.txns {
		if other != t && other.locks[page] > 0 && max(mode, other.locks[page]) == api.Alone {
			return true
		}
	}
	return false
}

// undo undoes until so many changes stand.
func (p *plain) undo(txn, depth int) {
	t := p.txns[txn]
	for len(t.stack) > depth {
		c := t.stack[len(t.stack)-1]
		p.apply(p.record(api.Rec{Kind: api.RUndo, Txn: txn, Next: c.prev, Page: c.page, Off: c.off, After: c.before}))
		t.stack = t.stack[:len(t.stack)-1]
	}
}

func (p *plain) abort(txn int) {
	p.undo(txn, 0)
	p.record(api.Rec{Kind: api.REnd, Txn: txn})
	delete(p.txns, txn)
}

func (p *plain) checkOn() api.Errno {
	if p.step < 2 && p.room() < p.need()+1 {
		return api.ErrFull
	}
	switch p.step {
	case 0:
		p.begin = p.append(api.Rec{Kind: api.RBegin})
	case 1:
		p.append(api.Rec{Kind: api.RTables, Begin: p.begin, Txns: p.txnRows(), Pages: p.pageRows()})
	case 2:
		p.flush()
	case 3:
		p.setMaster(api.Master{Check: p.begin, Low: p.low})
	}
	p.step = (p.step + 1) % 4
	return api.OK
}

func (p *plain) trim() api.Errno {
	p.flush()
	m := p.master().m
	if m.Check == 0 {
		return api.ErrState
	}
	least := min(m.Check, 128*p.upto)
	for _, r := range p.txnRows() {
		least = min(least, r.First)
	}
	for _, r := range p.pageRows() {
		least = min(least, r.Rec)
	}
	low := least / 128
	for low%4 != 1 {
		low--
	}
	if low <= p.low {
		return api.ErrState
	}
	m.Low = low
	p.setMaster(m)
	p.low = low
	p.list = slices.DeleteFunc(p.list, func(x api.Entry) bool { return x.At < 128*low })
	return api.OK
}

func (p *plain) txnRows() (rows []api.TxnRow) {
	for _, n := range slices.Sorted(maps.Keys(p.txns)) {
		if t := p.txns[n]; t.last > 0 {
			rows = append(rows, api.TxnRow{Txn: n, First: t.first, Last: t.last})
		}
	}
	return rows
}

func (p *plain) pageRows() (rows []api.PageRow) {
	for i := range p.c.Pages {
		if k := p.holds(i); k >= 0 && p.frames[k].dirty {
			rows = append(rows, api.PageRow{Page: i, Rec: p.frames[k].since})
		}
	}
	return rows
}

// The log.

func bytesOf(r api.Rec) int {
	switch r.Kind {
	case api.RUpdate:
		return 12 + 2*len(r.After)
	case api.RUndo:
		return 16 + len(r.After)
	case api.RBegin:
		return 1
	case api.RTables:
		return 7 + 12*len(r.Txns) + 5*len(r.Pages)
	}
	return 9
}

func (p *plain) append(r api.Rec) int {
	n := bytesOf(r)
	if p.used > 0 && p.used+n > 112 {
		p.open, p.used = p.open+1, 0
	}
	if p.open >= p.low+p.c.Log {
		panic("the log is full")
	}
	at := 128*p.open + p.used
	p.used += n
	p.list = append(p.list, api.Entry{At: at, R: r})
	return at
}

func (p *plain) record(r api.Rec) api.Entry {
	t := p.txns[r.Txn]
	r.Prev = t.last
	t.last = p.append(r)
	if t.first == 0 {
		t.first = t.last
	}
	return api.Entry{At: t.last, R: r}
}

func (p *plain) flush() {
	end := p.end()
	if p.first == end {
		return
	}
	for n := p.first; n < end; n++ {
		own := slices.Clone(p.list)
		own = slices.DeleteFunc(own, func(x api.Entry) bool { return x.At/128 != n })
		p.d.write(2+n%p.c.Log, logSheet{p.epoch, n, own})
	}
	p.d.sync()
	p.first, p.open, p.used = end, end, 0
}

// end is the sector behind the last one that has records.
func (p *plain) end() int {
	if p.used > 0 {
		return p.open + 1
	}
	return p.open
}

func (p *plain) room() int {
	return p.low + p.c.Log - p.end()
}

func (p *plain) need() int {
	n := len(p.txns)
	for _, t := range p.txns {
		n += len(t.stack)
	}
	return n
}

func (p *plain) openLog(low int) {
	p.low, p.epoch, p.list, p.used = low, 1, nil, 0
	p.open = low
	going, ahead := true, 0
	for i := range p.c.Log {
		x, ok := p.d.read(2 + (low+i)%p.c.Log).(logSheet)
		if going = going && ok && x.number == low+i && x.epoch >= ahead; going {
			p.list = append(p.list, x.list...)
			p.open, ahead = low+i+1, x.epoch
		}
		p.epoch = max(p.epoch, x.epoch+1)
	}
	p.first = p.open
}

func (p *plain) master() (x master) {
	x.m.Low = 1
	for i := range 2 {
		if y, ok := p.d.read(i).(master); ok && y.ticket > x.ticket {
			x = y
		}
	}
	return x
}

func (p *plain) setMaster(m api.Master) {
	n := p.master().ticket + 1
	p.d.write(n%2, master{n, m})
	p.d.sync()
}

// The pages.

func (p *plain) base() int {
	return 2 + p.c.Log
}

func (p *plain) writePage(i int, x api.Page) {
	n := p.ticket
	p.ticket++
	b := p.base()
	p.d.write(b, half{n, 0, x})
	p.d.write(b+1, half{n, 1, x})
	p.d.sync()
	p.d.write(b+2, head{n, i})
	p.d.sync()
	p.homes(i, n, x)
}

func (p *plain) homes(i, n int, x api.Page) {
	for k := range 2 {
		p.d.write(p.base()+3+2*i+k, half{n, k, x})
	}
	p.d.sync()
}

func (p *plain) openStore() {
	b := p.base()
	h, is := p.d.read(b + 2).(head)
	c0, is0 := p.d.read(b).(half)
	c1, is1 := p.d.read(b + 1).(half)
	if is && is0 && is1 && c0.ticket == h.ticket && c1.ticket == h.ticket {
		p.homes(h.page, h.ticket, c0.page)
	}
	p.ticket = 1
	for i := b; i < len(p.d.safe); i++ {
		switch x := p.d.read(i).(type) {
		case half:
			p.ticket = max(p.ticket, x.ticket+1)
		case head:
			p.ticket = max(p.ticket, x.ticket+1)
		}
	}
}

func (p *plain) readPage(i int) api.Page {
	at := p.base() + 3 + 2*i
	a, isA := p.d.read(at).(half)
	b, isB := p.d.read(at + 1).(half)
	switch {
	case !isA && !isB:
		return api.Page{Data: strings.Repeat("\x00", 220)}
	case a.ticket != b.ticket || isA != isB:
		panic("a page is torn")
	}
	return a.page
}

func (p *plain) holds(i int) int {
	return slices.IndexFunc(p.frames, func(f plainFrame) bool { return f.page == i })
}

func (p *plain) peek(i int) api.Page {
	if k := p.holds(i); k >= 0 {
		return p.frames[k].x
	}
	return p.readPage(i)
}

func (p *plain) get(i int) api.Page {
	if k := p.holds(i); k >= 0 {
		return p.frames[k].x
	}
	k := p.holds(-1)
	if k < 0 {
		k = p.hand
		p.empty(k)
		p.hand = (p.hand + 1) % len(p.frames)
	}
	p.frames[k] = plainFrame{page: i, x: p.readPage(i)}
	return p.frames[k].x
}

func (p *plain) empty(k int) {
	f := &p.frames[k]
	if f.dirty {
		if f.x.At >= 128*p.first {
			p.flush()
		}
		p.writePage(f.page, f.x)
	}
	*f = plainFrame{page: -1}
}

// apply does to its page what a record says; what the page has already isn't done again.
func (p *plain) apply(y api.Entry) {
	if y.At <= p.peek(y.R.Page).At {
		return
	}
	x := p.get(y.R.Page)
	x.Data = x.Data[:y.R.Off] + y.R.After + x.Data[y.R.Off+len(y.R.After):]
	x.At = y.At
	f := &p.frames[p.holds(y.R.Page)]
	f.x = x
	if !f.dirty {
		f.dirty, f.since = true, y.At
	}
}

// restart looks through all that the log has, wherever the last checkpoint is.
func (p *plain) restart() {
	m := p.master().m
	p.openLog(m.Low)
	p.openStore()
	p.frames = slices.Repeat([]plainFrame{{page: -1}}, p.c.Frames)
	p.hand, p.step, p.pending, p.txns = 0, 0, nil, map[int]*plainTxn{}
	log := slices.Clone(p.list)
	all := slices.Clone(p.tape)
	for _, x := range log {
		if x.At >= 128*p.upto {
			all = append(all, x)
		}
	}
	for i := range p.c.Pages {
		list := log
		if p.readPage(i).At == 0 {
			list = all
		}
		for _, x := range list {
			if x.R.Page == i && (x.R.Kind == api.RUpdate || x.R.Kind == api.RUndo) {
				p.apply(x)
			}
		}
	}
	for _, x := range log {
		p.follow(x)
	}
	for len(p.txns) > 0 {
		last := 0
		for n, t := range p.txns {
			if last == 0 || t.last > p.txns[last].last {
				last = n
			}
		}
		p.abort(last)
	}
	p.flush()
}

// follow learns from a record what its transaction has.
func (p *plain) follow(x api.Entry) {
	r := x.R
	t := p.txns[r.Txn]
	switch r.Kind {
	case api.RUpdate, api.RUndo:
		if t == nil {
			t = &plainTxn{first: x.At}
			p.txns[r.Txn] = t
		}
		t.last = x.At
		if r.Kind == api.RUpdate {
			t.stack = append(t.stack, change{r.Prev, r.Page, r.Off, r.Before})
		} else {
			t.stack = t.stack[:max(len(t.stack)-1, 0)] // of one that is over, and begins ahead of the log, it doesn't matter
		}
	case api.RCommit, api.REnd:
		delete(p.txns, r.Txn)
	}
}
