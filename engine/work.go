package engine

import (
	"slices"

	"careen/analysis"
	"careen/api"
	"careen/cell"
	"careen/chain"
	"careen/page"
)

// cellSize is how many bytes of a page a float takes.
const cellSize = 8

// checkSteps is how many steps a checkpoint has.
const checkSteps = 4

// do does an operation by its kind.
func (g *Engine) do(o api.Op) (data string, e api.Errno) {
	switch o.Kind {
	case api.OBegin:
		return "", g.begin(o.Txn)
	case api.ORead:
		return g.read(o)
	case api.OWrite:
		return "", g.write(o)
	case api.OAdd:
		return g.add(o)
	case api.OMark:
		return g.mark(o.Txn)
	case api.OBack:
		return "", g.back(o.Txn, o.N)
	case api.OCommit:
		return "", g.commit(o.Txn)
	case api.OAbort:
		return "", g.abort(o.Txn)
	case api.OFlush:
		return "", g.log.Flush()
	case api.OEvict:
		return "", g.pool.Evict(o.N)
	case api.OCheck:
		return "", g.checkOn()
	case api.OTrim:
		return "", g.trim()
	case api.OArchive:
		_, e = g.tape.Add(g.log)
		return "", e
	case api.OZero:
		return "", g.zero(o.Page)
	case api.OCrash:
		return "", g.wait(o)
	}
	return "", api.ErrArg
}

// begin has a transaction there.
func (g *Engine) begin(txn int) api.Errno {
	if e := g.enter(txn); e != api.OK {
		return e
	}
	// Its own record, with which it ends, is in Need by now.
	if !g.room(0) {
		g.leave(txn)
		return api.ErrFull
	}
	return api.OK
}

// read answers bytes of a page, which the transaction has shared then.
func (g *Engine) read(o api.Op) (string, api.Errno) {
	if e := g.may(o, o.N, api.Shared); e != api.OK {
		return "", e
	}
	need(g.locks.Take(o.Txn, o.Page, api.Shared))
	return g.bytes(o.Page, o.Off, o.N), api.OK
}

// write puts bytes into a page, which the transaction has alone then.
func (g *Engine) write(o api.Op) api.Errno {
	if e := g.seize(o, len(o.Data)); e != api.OK {
		return e
	}
	g.change(o, o.Data)
	return api.OK
}

// add adds to a float of a page, which the transaction has alone then, and answers its bytes.
func (g *Engine) add(o api.Op) (string, api.Errno) {
	if e := g.seize(o, cellSize); e != api.OK {
		return "", e
	}
	sum, e := cell.Add(g.bytes(o.Page, o.Off, cellSize), o.F)
	need(e)
	g.change(o, sum)
	return sum, api.OK
}

// mark makes a savepoint of a transaction, and answers its number as a byte.
func (g *Engine) mark(txn int) (string, api.Errno) {
	_, left, e := g.txns.Row(txn)
	if e != api.OK {
		return "", e
	}
	n, e := g.txns.Mark(txn, left)
	if e != api.OK {
		return "", e
	}
	return string([]byte{byte(n)}), api.OK
}

// back undoes what a transaction did behind a savepoint; its locks it keeps.
func (g *Engine) back(txn, n int) api.Errno {
	at, _, e := g.txns.Back(txn, n)
	if e != api.OK {
		return e
	}
	g.undo(txn, at)
	return api.OK
}

// commit ends a transaction; that it did isn't safe yet.
func (g *Engine) commit(txn int) api.Errno {
	if _, _, e := g.txns.Row(txn); e != api.OK {
		return e
	}
	at := g.record(api.Rec{Kind: api.RCommit, Txn: txn})
	g.leave(txn)
	g.pending = append(g.pending, commit{txn, at})
	return api.OK
}

// abort ends a transaction as if it had done nothing.
func (g *Engine) abort(txn int) api.Errno {
	if _, _, e := g.txns.Row(txn); e != api.OK {
		return e
	}
	g.undo(txn, 0)
	g.record(api.Rec{Kind: api.REnd, Txn: txn})
	g.leave(txn)
	return api.OK
}

// checkOn does the next step of a checkpoint. It doesn't count before the last one: till then the master is the older one.
func (g *Engine) checkOn() (e api.Errno) {
	c := g.check
	switch c.done {
	case 0:
		c.begin, e = g.note(api.Rec{Kind: api.RBegin})
	case 1:
		_, e = g.note(api.Rec{Kind: api.RTables, Begin: c.begin, Txns: g.txns.Rows(), Pages: g.pool.Dirty()})
	case 2:
		e = g.log.Flush()
	default:
		g.setMaster(c.begin, g.log.Low())
	}
	if e != api.OK {
		return e
	}
	g.check = checkpoint{done: (c.done + 1) % checkSteps, begin: c.begin}
	return api.OK
}

// trim has the log let go what neither a restart nor the tape needs any more. The master says so first: a restart must not look for what is written over.
func (g *Engine) trim() api.Errno {
	need(g.log.Flush())
	m, _ := g.master()
	// Without a checkpoint the horizon is 0, which lies behind no low.
	horizon := analysis.Horizon(m.Check, g.txns.Rows(), g.pool.Dirty())
	low := groupStart(min(horizon/api.Sector, g.tape.Upto()))
	if low <= g.log.Low() {
		return api.ErrState
	}
	g.setMaster(m.Check, low)
	need(g.log.Cut(low))
	return api.OK
}

// zero loses a page's sectors, and puts it together again from all its records.
func (g *Engine) zero(i int) api.Errno {
	if !g.hasPage(i) {
		return api.ErrRange
	}
	need(g.log.Flush())
	g.pool.Drop(i) // ErrNone, if no frame has it: that is as good
	need(g.store.Lose(i))
	x, e := g.tape.Page(g.log, i)
	need(e)
	need(g.store.Write(i, x))
	return api.OK
}

// wait has a crash wait for an operation that it comes with.
func (g *Engine) wait(o api.Op) api.Errno {
	if len(g.crashes) >= maxCrashes {
		return api.ErrFull
	}
	g.crashes = append(g.crashes, crash{fuse: max(o.N, 0), picks: slices.Clone(o.Picks)})
	return api.OK
}

// may tells why a transaction can't have n bytes of a page in a mode; OK, if it can.
func (g *Engine) may(o api.Op, n, mode int) api.Errno {
	_, _, e := g.txns.Row(o.Txn)
	switch {
	case e != api.OK:
		return e
	case !g.hasPage(o.Page) || !between(n, 1, api.MaxWrite) || !between(o.Off, 0, api.PageData-n):
		return api.ErrRange
	}
	return g.locks.May(o.Txn, o.Page, mode)
}

// seize gives a page to a transaction alone, if n bytes of it may be changed.
func (g *Engine) seize(o api.Op, n int) api.Errno {
	if e := g.may(o, n, api.Alone); e != api.OK {
		return e
	}
	// One record for the change, one to undo it.
	if !g.room(2) {
		return api.ErrFull
	}
	return g.locks.Take(o.Txn, o.Page, api.Alone)
}

// bytes answers what stands in a page that is there, which is fetched if it must be.
func (g *Engine) bytes(i, off, n int) string {
	x, e := g.pool.Get(i)
	need(e)
	s, e := page.Get(x, off, n)
	need(e)
	return s
}

// change puts bytes into a page, for a transaction that has it alone.
func (g *Engine) change(o api.Op, s string) {
	before := g.bytes(o.Page, o.Off, len(s))
	g.enact(api.Rec{Kind: api.RUpdate, Txn: o.Txn, Page: o.Page, Off: o.Off, Before: before, After: s}, 1)
}

// undo undoes the changes of a transaction that stand, down to a place.
func (g *Engine) undo(txn, stop int) {
	row, _, e := g.txns.Row(txn)
	need(e)
	list, e := chain.Undo(g.log.Scan(row.First), txn, row.Last, stop)
	need(e)
	for _, r := range list {
		g.enact(r, -1)
	}
}

// enact writes a record that changes a page, and changes the page; so many more changes stand.
func (g *Engine) enact(r api.Rec, more int) {
	at := g.record(r)
	x, e := g.pool.Get(r.Page)
	need(e)
	need(g.pool.Put(r.Page, page.Apply(x, at, r)))
	need(g.txns.Left(r.Txn, more))
}

// record writes a record of a transaction behind its last one.
func (g *Engine) record(r api.Rec) int {
	row, _, e := g.txns.Row(r.Txn)
	need(e)
	r.Prev = row.Last
	at, e := g.log.Append(r)
	need(e)
	need(g.txns.Log(r.Txn, at))
	return at
}

// note writes a record of a checkpoint; ErrFull, where there is room only for what transactions may need.
func (g *Engine) note(r api.Rec) (int, api.Errno) {
	if !g.room(1) {
		return 0, api.ErrFull
	}
	return g.log.Append(r)
}

// room tells whether n records can be written beside all that transactions may need: each of them may take a sector.
func (g *Engine) room(n int) bool {
	return g.log.Room() >= g.txns.Need()+n
}

// enter has a transaction there, without records.
func (g *Engine) enter(txn int) api.Errno {
	if e := g.txns.Begin(txn); e != api.OK {
		return e
	}
	i, _ := slices.BinarySearch(g.live, txn)
	g.live = slices.Insert(g.live, i, txn)
	return api.OK
}

// leave has a transaction over, and its locks free.
func (g *Engine) leave(txn int) {
	need(g.txns.End(txn))
	i, _ := slices.BinarySearch(g.live, txn)
	g.live = slices.Delete(g.live, i, i+1)
	g.locks.Free(txn)
}

func (g *Engine) hasPage(i int) bool {
	return between(i, 0, g.sizes.Pages-1)
}

// groupStart answers the first sector of the group that a sector of the log is in.
func groupStart(sector int) int {
	return (sector-1)/api.Group*api.Group + 1
}
