package master_test

import (
	"fmt"
	"slices"
	"testing"

	"careen/api"
	"careen/disk"
	"careen/master"
)

// The chapter's examples.

func TestExamples(t *testing.T) {
	d := made(t, 4)
	wantRead(t, "a new disk", d, 1, told{api.Master{Check: 0, Low: 1}, 0})
	m := api.Master{Check: 0x12345678, Low: 0x0A0B0C0D}
	want(t, "Write", master.Write(d, 1, 1, m), api.OK)
	wantRead(t, "behind Write", d, 1, told{m, 1})
	s := text(t, d, 2)
	if s[:20] != "\x00\x00\x00\x01\x00\x00\x00\x00\x00\x08\x00\x00\x12\x34\x56\x78\x0A\x0B\x0C\x0D" || s[20:124] != noughts[20:124] {
		t.Errorf("base + 1: %q", s)
	}
	for _, i := range []int{0, 1, 3} {
		if text(t, d, i) != noughts {
			t.Errorf("the sector %d is written", i)
		}
	}
}

// P12.1

// Each base of disks of several sizes, the last but one sector too: the sector of the ticket is written, and no other one.
func TestWriteMakesJustOneSectorSafe(t *testing.T) {
	for _, n := range []int{2, 3, 4, 5, 8, 511, 512} {
		for _, base := range []int{0, 1, 2, 3, n/2 - 1, n / 2, n - 4, n - 3, n - 2} {
			if base < 0 || base+1 >= n {
				continue
			}
			for _, ticket := range tickets() {
				x := told{api.Master{Check: base, Low: n}, ticket}
				d := filled(t, n)
				list := all(t, d)
				list[base+int(ticket%2)] = sectorOf(x)
				want(t, "Write", master.Write(d, base, ticket, x.m), api.OK)
				if d.Waiting() != 0 || !slices.Equal(safe(t, d), list) || !slices.Equal(all(t, d), list) {
					t.Fatalf("%d sectors, base %d, ticket %d: %d wait, %q", n, base, ticket, d.Waiting(), safe(t, d))
				}
				wantRead(t, "behind Write", d, base, x)
			}
		}
	}
}

func TestWriteLaysTheBytesOfEachMaster(t *testing.T) {
	for _, m := range edges() {
		for _, ticket := range tickets() {
			x := told{m, ticket}
			d := made(t, 3)
			want(t, "Write", master.Write(d, 1, ticket, m), api.OK)
			if got := text(t, d, 1+int(ticket%2)); got != sectorOf(x) {
				t.Errorf("%+v: %q", x, got)
			}
			wantRead(t, "behind Write", d, 1, x)
		}
	}
}

// A master in the other sector, or in the same one, doesn't matter, nor which tickets they have.
func TestWriteAsksNothingOfWhatIsThere(t *testing.T) {
	for _, ahead := range tickets() {
		for _, ticket := range tickets() {
			d := filled(t, 5)
			want(t, "the one ahead", master.Write(d, 2, ahead, api.Master{Check: 7, Low: 8}), api.OK)
			list := all(t, d)
			list[2+int(ticket%2)] = sectorOf(told{api.Master{Check: 9, Low: 10}, ticket})
			want(t, "Write", master.Write(d, 2, ticket, api.Master{Check: 9, Low: 10}), api.OK)
			if !slices.Equal(safe(t, d), list) {
				t.Errorf("ticket %d behind %d: %q", ticket, ahead, safe(t, d))
			}
		}
	}
}

// What is handed in a second time is written a second time: the sector may have been lost between.
func TestWriteWritesAgain(t *testing.T) {
	x := told{api.Master{Check: 5, Low: 6}, 4}
	d := made(t, 2)
	for range 3 {
		want(t, "Write", master.Write(d, 0, x.ticket, x.m), api.OK)
		wantRead(t, "behind Write", d, 0, x)
		want(t, "Lose", d.Lose(0), api.OK)
		wantRead(t, "behind Lose", d, 0, none)
	}
}

// Of the disk's writes and syncs it takes two.
func TestWriteNeedsOneWriteAndOneSync(t *testing.T) {
	for fuse, c := range []struct {
		e     api.Errno
		waits int
	}{{api.ErrDead, 0}, {api.ErrDead, 1}, {api.OK, 0}, {api.OK, 0}} {
		d := made(t, 2)
		d.Arm(fuse)
		want(t, fmt.Sprint("a fuse of ", fuse), master.Write(d, 0, 1, api.Master{Check: 1, Low: 2}), c.e)
		if d.Dead() != (c.e != api.OK) || d.Waiting() != c.waits {
			t.Errorf("a fuse of %d: %v, %d wait", fuse, d.Dead(), d.Waiting())
		}
		if fuse == 3 {
			want(t, "what is left of the fuse", d.Write(0, noughts), api.OK)
			want(t, "behind it", d.Sync(), api.ErrDead)
		}
	}
}

// The whole disk is synced, with what others wrote.
func TestWriteSyncsWhatWaits(t *testing.T) {
	d := made(t, 6)
	want(t, "a write", d.Write(5, own(5)), api.OK)
	want(t, "a write of the other sector", d.Write(2, own(2)), api.OK)
	want(t, "a write of the same sector", d.Write(3, own(3)), api.OK)
	x := told{api.Master{Check: 3, Low: 4}, 1}
	want(t, "Write", master.Write(d, 2, x.ticket, x.m), api.OK)
	if d.Waiting() != 0 || !slices.Equal(safe(t, d), []string{noughts, noughts, own(2), sectorOf(x), noughts, own(5)}) {
		t.Errorf("%d wait, %q", d.Waiting(), safe(t, d))
	}
}

func TestWriteRefusesMasters(t *testing.T) {
	for _, m := range wrong() {
		for _, ticket := range tickets() {
			unwritten(t, fmt.Sprintf("%+v", m), 4, 1, ticket, m, api.ErrArg)
		}
	}
}

func TestWriteRefusesBases(t *testing.T) {
	for _, n := range []int{1, 2, 3, 4, 511, 512} {
		for _, base := range beyond(n) {
			if base >= 0 && base < n-1 {
				continue
			}
			for _, ticket := range []uint32{0, 1, lastOne} { // the ticket's own sector may be there
				unwritten(t, fmt.Sprint("base ", base, " of ", n), n, base, ticket, api.Master{Check: 1, Low: 1}, api.ErrArg)
			}
		}
	}
}

// unwritten holds a Write that is refused against the document: nothing is changed, and none of the fuse is used up; nor does it matter that the power is gone.
func unwritten(t *testing.T, what string, n, base int, ticket uint32, m api.Master, e api.Errno) {
	t.Helper()
	d := made(t, n)
	want(t, "a write that waits", d.Write(0, own(0)), api.OK)
	list := all(t, d)
	d.Arm(1)
	want(t, what, master.Write(d, base, ticket, m), e)
	if d.Waiting() != 1 || d.Dead() || !slices.Equal(all(t, d), list) {
		t.Errorf("%s: the disk is changed", what)
	}
	want(t, what+": the fuse", d.Sync(), api.OK)
	want(t, what+": the fuse's end", d.Sync(), api.ErrDead)
	want(t, what+": without power", master.Write(d, base, ticket, m), e)
}

func TestWriteTellsTheFirstErrorFirst(t *testing.T) {
	good := api.Master{Check: 1, Low: 1}
	for _, m := range append(wrong(), good) {
		for _, base := range append(beyond(1), 0) {
			want(t, "no disk", master.Write(nil, base, 1, m), api.ErrNil)
			want(t, "a disk without sectors", master.Write(new(disk.Disk), base, 1, m), api.ErrArg)
			if m == good && base == 0 {
				continue
			}
			d := made(t, 2)
			want(t, "with power", master.Write(d, base, 1, m), api.ErrArg)
			want(t, "without power", master.Write(without(t, d), base, 1, m), api.ErrArg)
		}
	}
	d := made(t, 2)
	want(t, "without power", master.Write(without(t, d), 0, 1, good), api.ErrDead)
}

// A disk without power is as it was behind a Write, and behind its crash.
func TestWriteWithoutPowerChangesNothing(t *testing.T) {
	d := made(t, 3)
	x := told{api.Master{Check: 1, Low: 2}, 1}
	want(t, "Write", master.Write(d, 1, x.ticket, x.m), api.OK)
	c := without(t, d)
	for _, ticket := range tickets() {
		want(t, "without power", master.Write(c, 1, ticket, api.Master{Check: 3, Low: 4}), api.ErrDead)
	}
	if c.Waiting() != 0 {
		t.Errorf("%d wait", c.Waiting())
	}
	c.Crash([]uint8{1})
	if !slices.Equal(all(t, c), all(t, d)) {
		t.Error("the disk is changed")
	}
}

// P12.2

func TestReadOfANewDisk(t *testing.T) {
	for _, n := range []int{2, 3, 4, 511, 512} {
		d := made(t, n)
		for base := range n - 1 {
			wantRead(t, "a new disk", d, base, none)
		}
		wantRead(t, "texts that are no slabs", filled(t, n), n-2, none)
	}
}

// Masters with rising tickets, at odd and even bases, through the edge where a ticket has its highest bit, and up to the greatest one.
func TestReadTellsTheLastOfRisingTickets(t *testing.T) {
	for _, first := range []uint32{0, 1, 2, 250, greatest - 3, lastOne - 8} {
		for _, base := range []int{0, 1, 2, 3, 4} {
			d := made(t, 6)
			for i := range uint32(9) {
				x := told{edges()[(first+i)%42], first + i}
				want(t, "Write", master.Write(d, base, x.ticket, x.m), api.OK)
				wantRead(t, "behind Write", d, base, x)
				if got := text(t, d, base+int(x.ticket%2)); got != sectorOf(x) {
					t.Errorf("ticket %d: %q", x.ticket, got)
				}
			}
		}
	}
}

// Two masters side by side, as pairs of one disk that know nothing of each other.
func TestReadOfSeveralBases(t *testing.T) {
	d := made(t, 6)
	pairs := map[int]told{0: {api.Master{Check: 1, Low: 2}, 9}, 2: {api.Master{Check: 3, Low: 4}, 2}, 4: {api.Master{Check: 5, Low: 6}, lastOne}}
	for base, x := range pairs {
		want(t, "Write", master.Write(d, base, x.ticket, x.m), api.OK)
	}
	for base, x := range pairs {
		wantRead(t, "several", d, base, x)
	}
	wantRead(t, "a base between", d, 1, pairs[0]) // its first sector is 0's second one, its second one 2's first one
	wantRead(t, "a base between", d, 3, none)
}

// Each pair of Epochs, also such as Write lays in the other sector: the greater one, the first one of two that are the same.
func TestReadTellsTheGreaterEpoch(t *testing.T) {
	a, b := api.Master{Check: 11, Low: 12}, api.Master{Check: 13, Low: 14}
	for _, first := range tickets() {
		for _, second := range tickets() {
			x := told{a, first}
			if second > first {
				x = told{b, second}
			}
			d := laid(t, sectorOf(told{a, first}), sectorOf(told{b, second}))
			wantRead(t, fmt.Sprint("Epochs ", first, " and ", second), d, 0, x)
		}
	}
}

// Ticket 0 is one like others: what has it is told, and not that there is none.
func TestReadOfTicketNought(t *testing.T) {
	x := told{api.Master{Check: 700, Low: 6}, 0}
	for _, other := range []string{noughts, own(1), slabOf(9, 1, bodyOf(1, 1))} {
		wantRead(t, "in the first one", laid(t, sectorOf(x), other), 0, x)
		wantRead(t, "in the second one", laid(t, other, sectorOf(x)), 0, x)
	}
	wantRead(t, "in both", laid(t, sectorOf(x), sectorOf(told{api.Master{Check: 1, Low: 1}, 0})), 0, x)
}

func TestReadOfOneThatIsLost(t *testing.T) {
	for _, ticket := range []uint32{0, 1, 2, 41, lastOne - 2, lastOne - 1} {
		older, newer := told{api.Master{Check: 128, Low: 3}, ticket}, told{api.Master{Check: 256, Low: 4}, ticket + 1}
		for _, lost := range []told{older, newer} {
			d := made(t, 4)
			want(t, "the older one", master.Write(d, 1, older.ticket, older.m), api.OK)
			want(t, "the newer one", master.Write(d, 1, newer.ticket, newer.m), api.OK)
			want(t, "Lose", d.Lose(1+int(lost.ticket%2)), api.OK)
			left := newer
			if lost == newer {
				left = older
			}
			wantRead(t, "one lost", d, 1, left)
			want(t, "Lose", d.Lose(1+int(left.ticket%2)), api.OK)
			wantRead(t, "both lost", d, 1, none)
		}
	}
}

// torn is sectors that are no masters, whatever Epoch they have.
func torn(epoch uint32) []string {
	good := sectorOf(told{api.Master{Check: 128, Low: 3}, epoch})
	list := []string{noughts, own(0), own(254)}
	for bit := range 128 * 8 {
		b := []byte(good)
		b[bit/8] ^= 1 << (bit % 8)
		list = append(list, string(b))
	}
	for _, index := range []uint32{1, 2, 255, 256, 1 << 16, 1 << 24, greatest + 1, lastOne} {
		list = append(list, slabOf(epoch, index, bodyOf(128, 3)))
	}
	most := bodyOf(0x01020304, 0x05060708) // each beginning of it would be a right one, were it filled up
	for _, body := range []string{"", "\x00", most[:1], most[:4], most[:5], most[:7], most + "\x00", bodyOf(128, 3)[:7], bodyOf(128, 3) + "\x00", bodyOf(128, 3) + bodyOf(128, 3), bodyOf(0, 1) + noughts[:104]} {
		list = append(list, slabOf(epoch, 0, body))
	}
	for _, n := range []uint32{greatest + 1, greatest + 2, 1<<31 + 1<<30, lastOne - 1, lastOne} {
		list = append(list, slabOf(epoch, 0, bodyOf(n, 1)), slabOf(epoch, 0, bodyOf(0, n)), slabOf(epoch, 0, bodyOf(n, n)), slabOf(epoch, 0, bodyOf(n, 0)))
	}
	return append(list, slabOf(epoch, 0, bodyOf(0, 0)), slabOf(epoch, 0, bodyOf(1, 0)), slabOf(epoch, 0, bodyOf(greatest, 0)))
}

func TestReadOfSectorsThatAreNoMasters(t *testing.T) {
	x := told{api.Master{Check: 1, Low: 9}, 6}
	for _, epoch := range []uint32{0, 5, 6, 7, lastOne} {
		for _, s := range torn(epoch) {
			what := fmt.Sprintf("%q", s)
			wantRead(t, what, laid(t, s, noughts), 0, none)
			wantRead(t, what, laid(t, noughts, s), 0, none)
			wantRead(t, what, laid(t, s, s), 0, none)
			wantRead(t, what, laid(t, s, sectorOf(x)), 0, x)
			wantRead(t, what, laid(t, sectorOf(x), s), 0, x)
		}
	}
}

func TestReadTellsEachMasterThatWriteWrites(t *testing.T) {
	for _, m := range edges() {
		for _, ticket := range tickets() {
			x := told{m, ticket}
			wantRead(t, "in the first one", laid(t, sectorOf(x), noughts), 0, x)
			wantRead(t, "in the second one", laid(t, noughts, sectorOf(x)), 0, x)
		}
	}
}

func TestReadErrors(t *testing.T) {
	for _, n := range []int{1, 2, 3, 512} {
		d := filled(t, n)
		for _, base := range beyond(n) {
			refuses(t, "no disk", nil, base, api.ErrNil)
			refuses(t, "a disk without sectors", new(disk.Disk), base, api.ErrArg)
			if base >= 0 && base < n-1 {
				continue
			}
			refuses(t, fmt.Sprint("a disk of ", n), d, base, api.ErrArg)
			refuses(t, fmt.Sprint("a disk of ", n, " without power"), without(t, d), base, api.ErrArg)
		}
		for base := range n - 1 {
			refuses(t, "no disk", nil, base, api.ErrNil)
			refuses(t, "without power", without(t, d), base, api.ErrDead)
		}
	}
}

func TestReadWithoutPowerOfAMaster(t *testing.T) {
	d := made(t, 2)
	x := told{api.Master{Check: 1, Low: 2}, 3}
	want(t, "Write", master.Write(d, 0, x.ticket, x.m), api.OK)
	c := without(t, d)
	refuses(t, "without power", c, 0, api.ErrDead)
	c.Crash(nil)
	wantRead(t, "with power again", c, 0, x)
}

// It changes nothing, nor does it use up a fuse; what waits is read too.
func TestReadChangesNothing(t *testing.T) {
	x := told{api.Master{Check: 1, Low: 2}, 3}
	d := made(t, 3)
	want(t, "Write", master.Write(d, 1, 2, api.Master{Check: 9, Low: 9}), api.OK)
	want(t, "a write that waits", d.Write(2, sectorOf(x)), api.OK)
	d.Arm(1)
	list := all(t, d)
	for range 3 {
		wantRead(t, "what waits", d, 1, x)
	}
	refuses(t, "a base that isn't there", d, 2, api.ErrArg)
	if d.Waiting() != 1 || !slices.Equal(all(t, d), list) {
		t.Error("the disk is changed")
	}
	want(t, "the fuse", d.Sync(), api.OK)
	want(t, "the fuse's end", d.Sync(), api.ErrDead)
}

// Each two sectors of a few, held against the plain reading.
func TestReadOfEachTwoSectors(t *testing.T) {
	list := []string{noughts}
	for _, epoch := range []uint32{0, 1, 2, lastOne} {
		for _, index := range []uint32{0, 1} {
			for _, body := range []string{bodyOf(0, 1), bodyOf(greatest, greatest), bodyOf(5, 0), bodyOf(greatest+1, 1), bodyOf(0, 1)[:7], bodyOf(0, 1) + "\x00"} {
				list = append(list, slabOf(epoch, index, body))
			}
		}
	}
	for _, first := range list {
		for _, second := range list {
			wantRead(t, fmt.Sprintf("%q and %q", first, second), laid(t, first, second), 0, read(first, second))
		}
	}
}
