package master_test

import (
	"fmt"
	"testing"

	"careen/api"
	"careen/disk"
	"careen/master"
)

// P12.3

// next is the master of a step: no two of one history are alike.
func next(ticket uint32, n int) told {
	return told{api.Master{Check: 100*n + 7, Low: n + 1}, ticket}
}

// crashed writes a master with the fuse, has the power go, and come again. What is read then has to be the one ahead, or, as one that was borne has to be, the new one. It answers which.
func crashed(t *testing.T, what string, d *disk.Disk, base, fuse int, picks []uint8, ahead, x told) told {
	t.Helper()
	d.Arm(fuse)
	e := master.Write(d, base, x.ticket, x.m)
	if (e == api.OK) != (fuse > 1) || e != api.OK && e != api.ErrDead {
		t.Fatalf("%s: a fuse of %d: %d", what, fuse, e)
	}
	if e != api.OK {
		refuses(t, what+": without power", d, base, api.ErrDead)
	}
	d.Crash(picks)
	m, ticket, e := master.Read(d, base)
	got := told{m, ticket}
	if e != api.OK || got != ahead && got != x || fuse > 1 && got != x || fuse == 0 && got != ahead {
		t.Fatalf("%s: a fuse of %d, picks %v: %+v, %d, neither %+v nor %+v", what, fuse, picks, got, e, ahead, x)
	}
	return got
}

// starts is histories from which crashes begin: a new disk, one master, two of them, and such as come near the greatest ticket.
func starts(t *testing.T, base int) []*disk.Disk {
	t.Helper()
	list := []*disk.Disk{made(t, base+3)}
	for _, first := range []uint32{1, 2, 1000, greatest - 1, greatest, lastOne - 9} {
		d := made(t, base+3)
		want(t, "a first one", master.Write(d, base, first, api.Master{Check: 1, Low: 1}), api.OK)
		list = append(list, d.Copy())
		want(t, "a second one", master.Write(d, base, first+1, api.Master{Check: 2, Low: 1}), api.OK)
		list = append(list, d)
	}
	return list
}

func now(t *testing.T, d *disk.Disk, base int) told {
	t.Helper()
	m, ticket, e := master.Read(d, base)
	want(t, "Read", e, api.OK)
	return told{m, ticket}
}

// What becomes of the one write is told by its pick: lost, whole, or noughts.
func TestACrashKeepsTheOneAheadOrItsOwn(t *testing.T) {
	for _, base := range []int{0, 1, 2, 5} {
		for _, d := range starts(t, base) {
			ahead := now(t, d, base)
			x := next(ahead.ticket+1, 50)
			for fuse := range 4 {
				for pick := range 6 {
					left := ahead
					if fuse > 1 || fuse == 1 && pick%3 == 1 {
						left = x
					}
					got := crashed(t, "one crash", d.Copy(), base, fuse, []uint8{uint8(pick)}, ahead, x)
					if got != left {
						t.Errorf("a fuse of %d, pick %d: %+v, not %+v", fuse, pick, got, left)
					}
				}
			}
		}
	}
}

// Each row of crashes, one behind the other, at each write and sync, whatever is kept.
func TestEachRowOfCrashes(t *testing.T) {
	for _, base := range []int{0, 1} {
		for i, d := range starts(t, base) {
			deep := 5
			if i > 0 {
				deep = 3
			}
			rowOfCrashes(t, fmt.Sprint("start ", i), d, base, deep)
		}
	}
}

func rowOfCrashes(t *testing.T, what string, d *disk.Disk, base, deep int) {
	t.Helper()
	if deep == 0 {
		return
	}
	ahead := now(t, d, base)
	for _, c := range []struct {
		fuse int
		pick uint8
	}{{0, 0}, {1, 0}, {1, 1}, {1, 2}, {2, 0}, {2, 2}} {
		with := d.Copy()
		crashed(t, what, with, base, c.fuse, []uint8{c.pick}, ahead, next(ahead.ticket+1, deep))
		rowOfCrashes(t, what, with, base, deep-1)
	}
}

// Writes of others wait amid it, and have picks of their own.
func TestACrashWithOtherWritesThatWait(t *testing.T) {
	for _, d := range starts(t, 1) {
		for picks := range 81 {
			for fuse := range 3 {
				c := d.Copy()
				ahead := now(t, c, 1)
				for _, s := range []string{own(3), own(4), sectorOf(told{api.Master{Check: 3, Low: 3}, lastOne})} {
					want(t, "a write that waits", c.Write(0, s), api.OK)
				}
				thrown := []uint8{uint8(picks % 3), uint8(picks / 3 % 3), uint8(picks / 9 % 3), uint8(picks / 27)}
				crashed(t, "with others", c, 1, fuse, thrown, ahead, next(ahead.ticket+1, 8))
			}
		}
	}
}

// Long histories of crashes and of Writes that go through; what is borne is never lost later.
func TestLongHistories(t *testing.T) {
	for n := range 60 {
		thrown := dice(n)
		base := thrown.below(4)
		d := made(t, base+2)
		ahead := none
		if n%3 == 0 {
			ahead = next(uint32(lastOne-400+n), 3)
			want(t, "a first one", master.Write(d, base, ahead.ticket, ahead.m), api.OK)
		}
		for i := range 300 {
			x := told{api.Master{Check: thrown.below(greatest), Low: 1 + thrown.below(greatest)}, ahead.ticket + 1}
			what := fmt.Sprint("history ", n, ", step ", i)
			if thrown.below(3) == 0 {
				want(t, what, master.Write(d, base, x.ticket, x.m), api.OK)
				ahead = x
				wantRead(t, what, d, base, x)
				continue
			}
			ahead = crashed(t, what, d, base, thrown.below(4), []uint8{uint8(thrown.below(256))}, ahead, x)
		}
	}
}

// A crash in which nothing is written leaves the master as it is.
func TestACrashBetweenWrites(t *testing.T) {
	for _, d := range starts(t, 2) {
		ahead := now(t, d, 2)
		for pick := range uint8(3) {
			d.Crash([]uint8{pick})
			wantRead(t, "behind a crash", d, 2, ahead)
		}
	}
}
