package engine

import (
	"cmp"
	"slices"

	"careen/analysis"
	"careen/api"
	"careen/chain"
	"careen/lock"
	"careen/page"
	"careen/pool"
	"careen/store"
	"careen/table"
	"careen/wal"
)

// restart makes of what the disk has an engine without transactions: what the log has is done again, and of that undone what nobody committed.
func (g *Engine) restart() api.Errno {
	check := g.open()
	txns, pages, e := analysis.Tables(g.log.Scan(check), check)
	need(e)
	g.redo(analysis.From(check, pages))
	g.undoAll(txns)
	return g.log.Flush()
}

// open makes anew all that a crash doesn't leave, and answers where the last checkpoint began.
func (g *Engine) open() int {
	m, _ := g.master()
	var e api.Errno
	g.log, e = wal.Open(g.disk, logAt, g.sizes.Log, m.Low)
	need(e)
	g.store, e = store.Open(g.disk, logAt+g.sizes.Log, g.sizes.Pages)
	need(e)
	g.pool, e = pool.New(g.store, g.log, g.sizes.Frames)
	need(e)
	g.locks, g.txns, g.live = lock.New(), table.New(), nil
	g.check, g.pending = checkpoint{}, nil
	return m.Check
}

// redo does again on each page what it lacks: of one without records all there ever were, of the others those from a place on.
func (g *Engine) redo(from int) {
	some := g.log.Scan(from)
	var all []api.Entry
	for i := range g.sizes.Pages {
		x, e := g.store.Read(i)
		need(e)
		if x.At != 0 {
			g.redoPage(i, x, some)
			continue
		}
		if all == nil {
			all, e = g.tape.Whole(g.log)
			need(e)
		}
		g.redoPage(i, x, all)
	}
}

// redoPage does again on a page, as the store has it, its own records of a list. It is fetched only if it lacks one, and put record by record, as the pool keeps the first one that it lacked.
func (g *Engine) redoPage(i int, x api.Page, list []api.Entry) {
	for _, y := range list {
		if y.R.Page != i {
			continue
		}
		done := page.Apply(x, y.At, y.R)
		if done == x {
			continue
		}
		_, e := g.pool.Get(i)
		need(e)
		need(g.pool.Put(i, done))
		x = done
	}
}

// undoAll gives up the transactions that were under way. That with the greatest last record goes first, and stays the one until it is over, as each record that it writes is the last of all.
func (g *Engine) undoAll(rows []api.TxnRow) {
	for _, row := range rows {
		g.resume(row)
	}
	slices.SortFunc(rows, func(a, b api.TxnRow) int { return cmp.Compare(b.Last, a.Last) })
	for _, row := range rows {
		need(g.abort(row.Txn))
	}
}

// resume has a transaction there as its records tell it.
func (g *Engine) resume(row api.TxnRow) {
	need(g.enter(row.Txn))
	need(g.txns.Log(row.Txn, row.First))
	if row.Last > row.First {
		need(g.txns.Log(row.Txn, row.Last))
	}
	left, e := chain.Left(g.log.Scan(row.First), row.Txn, row.Last)
	need(e)
	need(g.txns.Left(row.Txn, left))
}
