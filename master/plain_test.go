package master_test

import (
	"encoding/binary"
	"hash/crc32"
	"math"
	"strings"
	"testing"

	"careen/api"
	"careen/disk"
	"careen/master"
)

// Masters as the document tells them, made and read without packages slab and master, and what holds the calls against them.

const (
	greatest = 1<<31 - 1 // of a Check and a Low
	lastOne  = 1<<32 - 1 // the greatest ticket
)

// noughts is a sector in which nothing was written.
var noughts = strings.Repeat("\x00", 128)

// told is what Read answers beside OK.
type told struct {
	m      api.Master
	ticket uint32
}

// none is what Read tells where there is no master.
var none = told{m: api.Master{Check: 0, Low: 1}}

// slabOf is the sector of any slab, its sum with it.
func slabOf(epoch, index uint32, body string) string {
	b := make([]byte, 124, 128)
	binary.BigEndian.PutUint32(b, epoch)
	binary.BigEndian.PutUint32(b[4:], index)
	binary.BigEndian.PutUint16(b[8:], uint16(len(body)))
	copy(b[12:], body)
	return string(binary.LittleEndian.AppendUint32(b, crc32.ChecksumIEEE(b)))
}

// bodyOf is eight bytes, also of numbers that no master has.
func bodyOf(check, low uint32) string {
	b := binary.BigEndian.AppendUint32(nil, check)
	return string(binary.BigEndian.AppendUint32(b, low))
}

// sectorOf is the sector that Write makes.
func sectorOf(x told) string {
	return slabOf(x.ticket, 0, bodyOf(uint32(x.m.Check), uint32(x.m.Low)))
}

// read is what Read tells of two sectors that the tests laid by slabOf: by its parts, and never by its sum, which is right or turned as a whole.
func read(sectors ...string) told {
	best, found := none, false
	for _, s := range sectors {
		check, low := binary.BigEndian.Uint32([]byte(s[12:])), binary.BigEndian.Uint32([]byte(s[16:]))
		if s == noughts || s[4:12] != "\x00\x00\x00\x00\x00\x08\x00\x00" || check > greatest || low > greatest || low == 0 {
			continue
		}
		epoch := binary.BigEndian.Uint32([]byte(s))
		if !found || epoch > best.ticket {
			best, found = told{api.Master{Check: int(check), Low: int(low)}, epoch}, true
		}
	}
	return best
}

// made is a new disk of n sectors.
func made(t *testing.T, n int) *disk.Disk {
	t.Helper()
	d, e := disk.New(n)
	if e != api.OK || d == nil {
		t.Fatalf("New(%d): %v, %d", n, d != nil, e)
	}
	return d
}

// filled is a disk of n sectors, each with a text of its own that is no master; all are safe.
func filled(t *testing.T, n int) *disk.Disk {
	t.Helper()
	d := made(t, n)
	for i := range n {
		lay(t, d, i, own(i))
	}
	return d
}

// own is the text of a sector of filled.
func own(i int) string {
	return strings.Repeat(string([]byte{byte(i + 1)}), 128)
}

// lay has a sector hold a text safely.
func lay(t *testing.T, d *disk.Disk, i int, s string) {
	t.Helper()
	want(t, "a sector is laid", d.Write(i, s), api.OK)
	want(t, "it is made safe", d.Sync(), api.OK)
}

// laid is a disk of two sectors.
func laid(t *testing.T, first, second string) *disk.Disk {
	t.Helper()
	d := made(t, 2)
	lay(t, d, 0, first)
	lay(t, d, 1, second)
	return d
}

// without is a copy of a disk, whose power is gone.
func without(t *testing.T, d *disk.Disk) *disk.Disk {
	t.Helper()
	c := d.Copy()
	c.Arm(0)
	want(t, "the power goes", c.Sync(), api.ErrDead)
	return c
}

func want(t *testing.T, what string, got, e api.Errno) {
	t.Helper()
	if got != e {
		t.Errorf("%s: %d, not %d", what, got, e)
	}
}

// wantRead holds Read against what it has to tell.
func wantRead(t *testing.T, what string, d *disk.Disk, base int, x told) {
	t.Helper()
	m, ticket, e := master.Read(d, base)
	if e != api.OK || (told{m, ticket}) != x {
		t.Errorf("%s: Read(%d): %+v, %d, %d, not %+v, %d", what, base, m, ticket, e, x.m, x.ticket)
	}
}

// refuses holds Read against an error, beside which all is zero.
func refuses(t *testing.T, what string, d *disk.Disk, base int, e api.Errno) {
	t.Helper()
	m, ticket, got := master.Read(d, base)
	if got != e || m != (api.Master{}) || ticket != 0 {
		t.Errorf("%s: Read(%d): %+v, %d, %d, not the error %d", what, base, m, ticket, got, e)
	}
}

// text is what a sector has.
func text(t *testing.T, d *disk.Disk, i int) string {
	t.Helper()
	s, e := d.Read(i)
	want(t, "a sector is read", e, api.OK)
	return s
}

// all is what all sectors of a disk have, safe or not.
func all(t *testing.T, d *disk.Disk) []string {
	t.Helper()
	var list []string
	for i := range d.Size() {
		list = append(list, text(t, d, i))
	}
	return list
}

// safe is what all sectors of a disk have behind a crash that loses what waits.
func safe(t *testing.T, d *disk.Disk) []string {
	t.Helper()
	c := d.Copy()
	c.Crash(nil)
	return all(t, c)
}

// edges is masters at the edges of what may be, and between.
func edges() []api.Master {
	var list []api.Master
	for _, check := range []int{0, 1, 128, 0x01020304, greatest - 1, greatest} {
		for _, low := range []int{1, 2, 255, 256, 0x05060708, greatest - 1, greatest} {
			list = append(list, api.Master{Check: check, Low: low})
		}
	}
	return list
}

// wrong is masters that may not be.
func wrong() []api.Master {
	beyond := []int{-1, -2, greatest + 1, greatest + 2, 1 << 32, 1<<32 + 1, math.MinInt, math.MaxInt, math.MinInt32, -greatest, -(1 << 32) + 1}
	list := []api.Master{{}, {Check: 1}, {Check: greatest}, {Check: -1, Low: 0}}
	for _, n := range beyond {
		list = append(list, api.Master{Check: n, Low: 1}, api.Master{Check: 0, Low: n}, api.Master{Check: 128, Low: n}, api.Master{Check: n, Low: greatest}, api.Master{Check: n, Low: n})
	}
	return list
}

// tickets is tickets at the edges, odd and even.
func tickets() []uint32 {
	return []uint32{0, 1, 2, 3, 255, 256, 0x01020304, greatest, greatest + 1, greatest + 2, lastOne - 2, lastOne - 1, lastOne}
}

// beyond is bases of which a disk of n sectors hasn't both.
func beyond(n int) []int {
	return []int{-1, -2, -3, -n, 1 - n, n - 1, n, n + 1, 2 * n, 512, 1 << 32, -(1 << 32), math.MinInt, math.MinInt + 1, math.MaxInt, math.MaxInt - 1}
}

// dice is numbers that look thrown, the same ones each time.
type dice uint64

func (d *dice) below(n int) int {
	*d = *d*6364136223846793005 + 1442695040888963407
	return int(uint64(*d) >> 33 % uint64(n))
}
