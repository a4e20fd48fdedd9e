package slab_test

import (
	"encoding/binary"
	"fmt"
	"hash/crc32"
	"math"
	"strconv"
	"strings"
	"testing"

	"careen/api"
	"careen/slab"
)

// sealed is a sector of any first 124 bytes (noughts behind those given), with the sum that fits them, made without the package's own code.
func sealed(front string) string {
	b := make([]byte, 128)
	copy(b[:124], front)
	binary.LittleEndian.PutUint32(b[124:], crc32.ChecksumIEEE(b[:124]))
	return string(b)
}

// plain is the sector that the document gives a slab.
func plain(x api.Slab) string {
	b := binary.BigEndian.AppendUint32(nil, x.Epoch)
	b = binary.BigEndian.AppendUint32(b, x.Index)
	b = binary.BigEndian.AppendUint16(b, uint16(len(x.Body)))
	return sealed(string(b) + "\x00\x00" + x.Body)
}

// bytesFrom is n bytes that run on from the first one, round behind 255.
func bytesFrom(first, n int) string {
	b := make([]byte, n)
	for i := range b {
		b[i] = byte(first + i)
	}
	return string(b)
}

// slabs are ordinary ones, and all edges that the document names.
func slabs() []api.Slab {
	list := []api.Slab{
		{},
		{Epoch: 1, Index: 2, Body: "a"},
		{Epoch: 0x01020304, Index: 0xA5B6C7D8, Body: "the body"},
		{Epoch: math.MaxUint32},
		{Index: math.MaxUint32},
		{Epoch: math.MaxUint32, Index: math.MaxUint32, Body: strings.Repeat("\xff", 112)},
		{Epoch: 1 << 31, Index: 1, Body: "\x00"},
		{Epoch: 1, Index: 1 << 31, Body: "\x00\x00a\x00\x00"},
		{Epoch: 7, Index: 7, Body: "\x80\xff\xc3\x28 \xe2\x82"},
		{Epoch: 7, Index: 8, Body: strings.Repeat("\x00", 112)},
	}
	for n := 0; n <= 112; n++ {
		list = append(list, api.Slab{Epoch: uint32(n), Index: uint32(n) << 24, Body: bytesFrom(n*3, n)})
	}
	return list
}

// told is a slab as a line of plain signs, whatever its body is.
func told(x api.Slab) string {
	return fmt.Sprintf("{%d %d %q}", x.Epoch, x.Index, x.Body)
}

func wantTorn(t *testing.T, what, s string) {
	t.Helper()
	if x, e := slab.Unpack(s); e != api.ErrTorn || x != (api.Slab{}) {
		t.Fatalf("%s: Unpack answers %s, %d, not an empty slab and ErrTorn", what, told(x), e)
	}
}

// P1.1

func TestSumOfKnownTexts(t *testing.T) {
	for _, c := range []struct {
		s   string
		sum uint32
	}{
		{"123456789", 0xCBF43926},
		{"", 0},
		{"\x00", 0xD202EF8D},
		{"\xff", 0xFF000000},
		{"a", 0xE8B7BE43},
		{"The quick brown fox jumps over the lazy dog", 0x414FA339},
	} {
		if got := slab.Sum(c.s); got != c.sum {
			t.Errorf("Sum(%q): %08X, not %08X", c.s, got, c.sum)
		}
	}
}

func TestSumIsThatOfTheStandard(t *testing.T) {
	for b := range 256 {
		s := string([]byte{byte(b)})
		if got, want := slab.Sum(s), crc32.ChecksumIEEE([]byte(s)); got != want {
			t.Fatalf("Sum of the byte %d: %08X, not %08X", b, got, want)
		}
	}
	for n := range 600 {
		for _, s := range []string{bytesFrom(n, n), strings.Repeat("\x00", n), strings.Repeat("\xff", n)} {
			if got, want := slab.Sum(s), crc32.ChecksumIEEE([]byte(s)); got != want {
				t.Fatalf("Sum of %d bytes: %08X, not %08X", n, got, want)
			}
		}
	}
	long := strings.Repeat(bytesFrom(5, 253), 5000)
	if got, want := slab.Sum(long), crc32.ChecksumIEEE([]byte(long)); got != want {
		t.Errorf("Sum of a long text: %08X, not %08X", got, want)
	}
}

func TestPackOfTheExample(t *testing.T) {
	want := "\x00\x00\x00\x01\x00\x00\x00\x02\x00\x01\x00\x00a" + strings.Repeat("\x00", 111) + "\x0d\xe1\xbe\x4c"
	s, e := slab.Pack(api.Slab{Epoch: 1, Index: 2, Body: "a"})
	if e != api.OK || s != want {
		t.Errorf("Pack answers %q, %d, not %q", s, e, want)
	}
}

func TestPackLaysEachSectorAsTheDocumentSays(t *testing.T) {
	for _, x := range slabs() {
		s, e := slab.Pack(x)
		if e != api.OK || s != plain(x) {
			t.Fatalf("Pack(%s) answers %q, %d, not %q", told(x), s, e, plain(x))
		}
		if again, _ := slab.Pack(x); again != s {
			t.Fatalf("Pack(%s) answers something else the second time", told(x))
		}
	}
}

func TestPackRefusesLongBodies(t *testing.T) {
	for _, n := range []int{113, 114, 124, 128, 255, 256, 257, 368, 1 << 16, 1<<16 + 1, 1<<16 + 112, 1 << 20} {
		for _, fill := range []string{"\x00", "x"} {
			s, e := slab.Pack(api.Slab{Epoch: 1, Index: 2, Body: strings.Repeat(fill, n)})
			if e != api.ErrArg || s != "" {
				t.Errorf("Pack of %d bytes answers %q, %d, not ErrArg", n, s, e)
			}
		}
	}
}

func TestUnpackReadsEachSector(t *testing.T) {
	for _, x := range slabs() {
		if y, e := slab.Unpack(plain(x)); e != api.OK || y != x {
			t.Fatalf("Unpack of the sector of %s answers %s, %d", told(x), told(y), e)
		}
	}
}

func TestUnpackRefusesOtherLengths(t *testing.T) {
	for _, x := range []api.Slab{{}, {Epoch: 1, Index: 2, Body: "a"}, {Body: bytesFrom(1, 112)}} {
		s := plain(x)
		for n := range 128 {
			wantTorn(t, "its first "+strconv.Itoa(n)+" bytes", s[:n])
			wantTorn(t, "all but its first "+strconv.Itoa(n+1)+" bytes", s[n+1:])
		}
		for _, more := range []string{"\x00", "x", strings.Repeat("\x00", 128), s} {
			wantTorn(t, "bytes behind it", s+more)
			wantTorn(t, "bytes ahead of it", more+s)
		}
	}
	wantTorn(t, "no text", "")
}

func TestUnpackRefusesWrongSums(t *testing.T) {
	for _, x := range []api.Slab{{}, {Epoch: 1, Index: 2, Body: "a"}, {Body: bytesFrom(1, 112)}} {
		s := plain(x)
		sum := binary.LittleEndian.Uint32([]byte(s[124:]))
		for i := 124; i < 128; i++ {
			for d := 1; d < 256; d++ {
				b := []byte(s)
				b[i] += byte(d)
				wantTorn(t, "a wrong byte in the sum", string(b))
			}
		}
		wantTorn(t, "the sum's highest byte first", s[:124]+string(binary.BigEndian.AppendUint32(nil, sum)))
		wantTorn(t, "the sum's bits turned", s[:124]+string(binary.LittleEndian.AppendUint32(nil, ^sum)))
		wantTorn(t, "no sum", s[:124]+"\x00\x00\x00\x00")
	}
}

func TestUnpackRefusesBytesThatDifferWithoutTheSum(t *testing.T) {
	for _, x := range []api.Slab{{}, {Epoch: 1, Index: 2, Body: "a"}, {Body: bytesFrom(1, 112)}} {
		s := plain(x)
		for i := range 124 {
			b := []byte(s)
			b[i] += 77
			wantTorn(t, "a wrong byte at "+strconv.Itoa(i), string(b))
		}
	}
}

// The sums fit in all of these: what is wrong must be seen by itself.

func TestUnpackRefusesGreatLengths(t *testing.T) {
	for _, fill := range []string{"\x00", "x"} {
		for n := 113; n < 1<<16; n++ {
			size := string(binary.BigEndian.AppendUint16(nil, uint16(n)))
			wantTorn(t, "a length of "+strconv.Itoa(n), sealed("\x00\x00\x00\x01\x00\x00\x00\x02"+size+"\x00\x00"+strings.Repeat(fill, 112)))
		}
	}
}

func TestUnpackRefusesOtherBytesThanTheTwoNoughts(t *testing.T) {
	for _, body := range []string{"", "a", bytesFrom(1, 112)} {
		s := plain(api.Slab{Epoch: 1, Index: 2, Body: body})
		for _, i := range []int{10, 11} {
			for v := 1; v < 256; v++ {
				b := []byte(s)
				b[i] = byte(v)
				wantTorn(t, "a byte "+strconv.Itoa(v)+" at "+strconv.Itoa(i), sealed(string(b[:124])))
			}
		}
		wantTorn(t, "both of them", sealed(s[:10]+"\x01\xff"+s[12:124]))
	}
}

func TestUnpackRefusesBytesBehindTheBody(t *testing.T) {
	for n := range 112 {
		s := plain(api.Slab{Epoch: 1, Index: 2, Body: bytesFrom(1, n)})
		for i := 12 + n; i < 124; i++ {
			for _, v := range []byte{1, 'x', 0x80, 0xff} {
				b := []byte(s)
				b[i] = v
				wantTorn(t, "a byte at "+strconv.Itoa(i)+" behind a body of "+strconv.Itoa(n), sealed(string(b[:124])))
			}
		}
	}
}

func TestUnpackTakesTheSectorsThatAreOneAlone(t *testing.T) {
	x := uint32(1)
	next := func() byte {
		x ^= x << 13
		x ^= x >> 17
		x ^= x << 5
		return byte(x >> 11)
	}
	for range 20000 {
		b := make([]byte, 124)
		for i := range b {
			if next()&1 == 0 {
				b[i] = next()
			}
		}
		if next()&3 != 0 { // most of them begin as a slab does
			n := int(next()) % 114
			b[8], b[9], b[10], b[11] = 0, byte(n), 0, 0
			if next()&1 == 0 {
				clear(b[min(12+n, 124):])
			}
		}
		s := sealed(string(b))
		y, e := slab.Unpack(s)
		if e == api.OK && plain(y) != s || e != api.OK && (e != api.ErrTorn || y != (api.Slab{})) {
			t.Fatalf("Unpack(%q) answers %s, %d", s, told(y), e)
		}
		n := int(b[9])
		if b[8] == 0 && n <= 112 && b[10] == 0 && b[11] == 0 && strings.Trim(string(b[12+n:]), "\x00") == "" && e != api.OK {
			t.Fatalf("Unpack(%q) refuses a slab's sector", s)
		}
	}
}

func TestZeroIsNoughts(t *testing.T) {
	if z := slab.Zero(); z != strings.Repeat("\x00", 128) {
		t.Errorf("Zero answers %q", z)
	}
}

// P1.2

func TestWhatIsPackedIsUnpackedAsItWas(t *testing.T) {
	for _, x := range slabs() {
		s, e := slab.Pack(x)
		if e != api.OK {
			t.Fatalf("Pack(%s): %d", told(x), e)
		}
		if y, e := slab.Unpack(s); e != api.OK || y != x {
			t.Fatalf("%s comes back as %s, %d", told(x), told(y), e)
		}
	}
}

func TestNoughtsAreNoSlab(t *testing.T) {
	wantTorn(t, "Zero", slab.Zero())
	wantTorn(t, "128 noughts", strings.Repeat("\x00", 128))
}

func TestASingleTurnedBitIsSeen(t *testing.T) {
	for _, x := range slabs() {
		s, e := slab.Pack(x)
		if e != api.OK || len(s) != 128 {
			t.Fatalf("Pack(%s): %d bytes, %d", told(x), len(s), e)
		}
		for bit := range 8 * 128 {
			b := []byte(s)
			b[bit/8] ^= 1 << (bit % 8)
			wantTorn(t, "the bit "+strconv.Itoa(bit)+" turned", string(b))
		}
	}
}
