package cell_test

import (
	"encoding/binary"
	"math"
	"math/big"
	"slices"
	"strconv"
	"strings"
	"testing"

	"careen/api"
	"careen/cell"
)

const (
	nan      = 0x7FF8000000000000
	minus    = 1 << 63
	infinity = 0x7FF0000000000000
	greatest = 0x7FEFFFFFFFFFFFFF
	least    = 1                  // of all above 0
	leastOne = 0x0010000000000000 // that is normal
	oneBits  = 0x3FF0000000000000
)

// row is the floats in the document's order, the lowest first, NaN apart.
func row() []uint64 {
	above := []uint64{
		0, least, 2, 0x0008000000000000, leastOne - 1, leastOne, leastOne + 1,
		math.Float64bits(1e-300), math.Float64bits(0.1), math.Float64bits(0.2), math.Float64bits(0.5),
		oneBits - 1, oneBits, oneBits + 1, math.Float64bits(1.5), math.Float64bits(2), math.Float64bits(3),
		math.Float64bits(1<<53 - 1), math.Float64bits(1 << 53), math.Float64bits(1<<53 + 2),
		math.Float64bits(0x1p969), math.Float64bits(0x1p970), math.Float64bits(0x1p971), math.Float64bits(1e300),
		greatest - 1, greatest, infinity,
	}
	var all []uint64
	for _, b := range slices.Backward(above) {
		all = append(all, b|minus)
	}
	return append(all, above...)
}

// nans are floats that are no numbers, with bits of all kinds.
func nans() []uint64 {
	list := []uint64{nan}
	for bit := range 52 {
		list = append(list, infinity|1<<bit)
	}
	list = append(list, infinity|0x0007FFFFFFFFFFFF, nan|1, nan|0x0007FFFFFFFFFFFF, infinity|0x000123456789ABCD)
	for _, b := range slices.Clone(list) {
		list = append(list, b|minus)
	}
	return list
}

func edges() []uint64 {
	return append(row(), nans()...)
}

// mixed is n texts of 64 bits that look like any ones, the same at each run; many are near to each other, subnormal or infinite.
func mixed(n int) []uint64 {
	list := make([]uint64, n)
	x := uint64(0x9E3779B97F4A7C15)
	for i := range list {
		x ^= x << 13
		x ^= x >> 7
		x ^= x << 17
		list[i] = x
		switch i % 5 {
		case 1:
			list[i] = x&^(uint64(0x7FF)<<52) | (1000+x>>52&63)<<52 // a number near to 1
		case 2:
			list[i] = x &^ (uint64(0x7FF) << 52)
		case 3:
			list[i] = x | uint64(0x7FE)<<52
		}
	}
	return list
}

func isNaNBits(b uint64) bool {
	return b&^uint64(minus) > infinity
}

// settled is the bits that the document has for these.
func settled(b uint64) uint64 {
	if isNaNBits(b) {
		return nan
	}
	return b
}

func of(b uint64) float64 {
	return math.Float64frombits(b)
}

func plain(b uint64) string {
	return string(binary.BigEndian.AppendUint64(nil, b))
}

func hex(b uint64) string {
	return strconv.FormatUint(b, 16)
}

func floats(bits ...uint64) []float64 {
	list := make([]float64, len(bits))
	for i, b := range bits {
		list[i] = of(b)
	}
	return list
}

// together is the sum's bits, reckoned without a float's own addition: exact, then rounded once.
func together(a, b uint64) uint64 {
	x, y := of(a), of(b)
	switch {
	case isNaNBits(a) || isNaNBits(b), math.IsInf(x, 0) && math.IsInf(y, 0) && a != b:
		return nan
	case math.IsInf(x, 0):
		return a
	case math.IsInf(y, 0):
		return b
	}
	exact := new(big.Float).SetPrec(2200).SetMode(big.ToNearestEven)
	exact.Add(new(big.Float).SetFloat64(x), new(big.Float).SetFloat64(y))
	if exact.Sign() == 0 { // without a minus, but for two zeros that have one
		return a & b & minus
	}
	sum, _ := exact.Float64()
	return math.Float64bits(sum)
}

// place is where a float stands: a number that grows along the document's row.
func place(b uint64) uint64 {
	switch {
	case isNaNBits(b):
		return math.MaxUint64
	case b&minus != 0:
		return ^b
	}
	return b | minus
}

func wantBits(t *testing.T, what string, got float64, want uint64) {
	t.Helper()
	if g := math.Float64bits(got); g != want {
		t.Errorf("%s: the bits %s, not %s", what, hex(g), hex(want))
	}
}

// P2.1

func TestFloatReadsEachCell(t *testing.T) {
	for _, b := range append(edges(), mixed(20000)...) {
		f, e := cell.Float(plain(b))
		if e != api.OK {
			t.Fatalf("Float of the cell %s: %d", hex(b), e)
		}
		wantBits(t, "Float of the cell "+hex(b), f, settled(b))
	}
}

func TestBytesLaysEachFloat(t *testing.T) {
	for _, b := range append(edges(), mixed(20000)...) {
		if got := cell.Bytes(of(b)); got != plain(settled(b)) {
			t.Errorf("Bytes of the bits %s: %x", hex(b), got)
		}
	}
}

func TestBytesStandHighestFirst(t *testing.T) {
	for _, c := range []struct {
		f float64
		s string
	}{
		{1, "\x3f\xf0\x00\x00\x00\x00\x00\x00"},
		{0, "\x00\x00\x00\x00\x00\x00\x00\x00"},
		{math.Copysign(0, -1), "\x80\x00\x00\x00\x00\x00\x00\x00"},
		{-2, "\xc0\x00\x00\x00\x00\x00\x00\x00"},
		{math.Inf(1), "\x7f\xf0\x00\x00\x00\x00\x00\x00"},
		{math.Inf(-1), "\xff\xf0\x00\x00\x00\x00\x00\x00"},
		{math.NaN(), "\x7f\xf8\x00\x00\x00\x00\x00\x00"},
		{math.MaxFloat64, "\x7f\xef\xff\xff\xff\xff\xff\xff"},
		{math.SmallestNonzeroFloat64, "\x00\x00\x00\x00\x00\x00\x00\x01"},
		{0.1, "\x3f\xb9\x99\x99\x99\x99\x99\x9a"},
		{of(0x3102030405060708), "\x31\x02\x03\x04\x05\x06\x07\x08"},
	} {
		if got := cell.Bytes(c.f); got != c.s {
			t.Errorf("Bytes(%v): %x, not %x", c.f, got, c.s)
		}
		f, e := cell.Float(c.s)
		if want := settled(math.Float64bits(c.f)); e != api.OK || math.Float64bits(f) != want {
			t.Errorf("Float(%x): %v, %d, not %v", c.s, f, e, c.f)
		}
	}
}

func TestOtherLengthsAreNoCells(t *testing.T) {
	var texts []string
	for n := range 40 {
		texts = append(texts, strings.Repeat("\x00", n), strings.Repeat("\x40", n), strings.Repeat("\xff", n))
	}
	texts = append(texts, "1", "3.5", "NaN", plain(oneBits)+plain(oneBits), strings.Repeat("x", 264), strings.Repeat("x", 1<<16+8))
	for _, s := range texts {
		if len(s) == 8 {
			continue
		}
		f, e := cell.Float(s)
		if e != api.ErrArg {
			t.Errorf("Float of %d bytes: %d, not ErrArg", len(s), e)
		}
		wantBits(t, "Float of "+strconv.Itoa(len(s))+" bytes", f, 0)
		for _, f := range floats(0, oneBits, infinity, nan) {
			if got, e := cell.Add(s, f); e != api.ErrArg || got != "" {
				t.Errorf("Add of %d bytes and %v: %q, %d, not ErrArg", len(s), f, got, e)
			}
		}
	}
}

func wantAdd(t *testing.T, a, b, want uint64) {
	t.Helper()
	if got, e := cell.Add(plain(a), of(b)); e != api.OK || got != plain(want) {
		t.Errorf("Add of the bits %s and %s: %x, %d, not %s", hex(a), hex(b), got, e, hex(want))
	}
}

func TestAddOfNumbers(t *testing.T) {
	for _, c := range [][3]float64{
		{1, 2, 3},
		{0.1, 0.2, 0.30000000000000004},
		{1, -1, 0},
		{-1, 1, 0},
		{1.5, -4, -2.5},
		// Halves go to the even one, on both sides.
		{1, 0x1p-53, 1},
		{1 + 0x1p-52, 0x1p-53, 1 + 0x1p-51},
		{-1, -0x1p-53, -1},
		{-1 - 0x1p-52, -0x1p-53, -1 - 0x1p-51},
		{1 << 53, 1, 1 << 53},
		{1<<53 + 2, 1, 1<<53 + 4},
		{1, 0x1p-53 + 0x1p-105, 1 + 0x1p-52},
		{1, 0x1p-53 - 0x1p-106, 1},
		// What is beyond the greatest one.
		{math.MaxFloat64, 0x1p970, math.Inf(1)},
		{math.MaxFloat64, 0x1p970 - 0x1p917, math.MaxFloat64},
		{math.MaxFloat64, math.MaxFloat64, math.Inf(1)},
		{-math.MaxFloat64, -0x1p970, math.Inf(-1)},
		{-math.MaxFloat64, -math.MaxFloat64, math.Inf(-1)},
		{math.MaxFloat64, -math.MaxFloat64, 0},
		// What is no longer normal stays exact.
		{0x1p-1074, 0x1p-1074, 0x1p-1073},
		{0x1p-1022, -0x1p-1074, 0x1p-1022 - 0x1p-1074},
		{0x1p-1022 - 0x1p-1074, 0x1p-1074, 0x1p-1022},
		{-0x1p-1074, 0x1p-1074, 0},
		{math.Inf(1), -math.MaxFloat64, math.Inf(1)},
		{-1, math.Inf(-1), math.Inf(-1)},
	} {
		wantAdd(t, math.Float64bits(c[0]), math.Float64bits(c[1]), math.Float64bits(c[2]))
	}
}

func TestAddOfZeros(t *testing.T) {
	wantAdd(t, minus, 0, 0)
	wantAdd(t, 0, minus, 0)
	wantAdd(t, 0, 0, 0)
	wantAdd(t, minus, minus, minus)
}

func TestAddOfInfinitiesAndNaN(t *testing.T) {
	wantAdd(t, infinity, infinity|minus, nan)
	wantAdd(t, infinity|minus, infinity, nan)
	wantAdd(t, infinity, infinity, infinity)
	wantAdd(t, infinity|minus, infinity|minus, infinity|minus)
	for _, a := range nans() {
		for _, b := range edges() {
			wantAdd(t, a, b, nan)
			wantAdd(t, b, a, nan)
		}
	}
}

func TestAddIsTheExactSumRoundedOnce(t *testing.T) {
	for _, a := range row() {
		for _, b := range row() {
			wantAdd(t, a, b, together(a, b))
		}
	}
	list := mixed(20000)
	for i, b := range list {
		a := list[(i+5)%len(list)] // of the same kind
		wantAdd(t, a, b, together(a, b))
		wantAdd(t, a^minus, b, together(a^minus, b))
	}
}

// P2.2

func wantOrder(t *testing.T, a, b uint64, want int) {
	t.Helper()
	if got := cell.Order(of(a), of(b)); got != want {
		t.Errorf("Order of the bits %s and %s: %d, not %d", hex(a), hex(b), got, want)
	}
}

func TestOrderIsThatOfTheRow(t *testing.T) {
	all := row()
	for i, a := range all {
		for j, b := range all {
			want := 0
			if i < j {
				want = -1
			} else if i > j {
				want = 1
			}
			wantOrder(t, a, b, want)
		}
	}
}

func TestOrderOfZeros(t *testing.T) {
	wantOrder(t, minus, 0, -1)
	wantOrder(t, 0, minus, 1)
	wantOrder(t, 0, 0, 0)
	wantOrder(t, minus, minus, 0)
	wantOrder(t, minus|least, minus, -1)
	wantOrder(t, 0, least, -1)
}

func TestOrderHasAllNaNAtOnePlaceBehindAll(t *testing.T) {
	for _, a := range nans() {
		for _, b := range nans() {
			wantOrder(t, a, b, 0)
		}
		for _, b := range row() {
			wantOrder(t, a, b, 1)
			wantOrder(t, b, a, -1)
		}
	}
}

func TestOrderOfAnyBits(t *testing.T) {
	list := mixed(20000)
	for i, a := range list {
		b := list[(i+1)%len(list)]
		c := list[(i+5)%len(list)]
		for _, other := range []uint64{a, b, c, a ^ 1, a ^ minus} {
			want := 0
			if place(a) < place(other) {
				want = -1
			} else if place(a) > place(other) {
				want = 1
			}
			wantOrder(t, a, other, want)
		}
	}
}

func wantMost(t *testing.T, list []uint64, want uint64) {
	t.Helper()
	wantBits(t, "Most of "+strconv.Itoa(len(list))+" floats", cell.Most(floats(list...)), want)
}

func TestMostOfNoneIsTheInfinityBelow(t *testing.T) {
	wantBits(t, "Most(nil)", cell.Most(nil), infinity|minus)
	wantBits(t, "Most of an empty list", cell.Most([]float64{}), infinity|minus)
	wantMost(t, []uint64{infinity | minus}, infinity|minus)
}

func TestMostOfEachPair(t *testing.T) {
	all := row()
	for i, a := range all {
		wantMost(t, []uint64{a}, a)
		for j, b := range all {
			wantMost(t, []uint64{a, b}, all[max(i, j)])
		}
	}
}

func TestMostOfZeros(t *testing.T) {
	wantMost(t, []uint64{minus, 0, minus | oneBits}, 0)
	wantMost(t, []uint64{0, minus}, 0)
	wantMost(t, []uint64{minus, minus}, minus)
	wantMost(t, []uint64{minus, minus | least}, minus)
}

func TestMostWithNaNIsTheCanonicalOne(t *testing.T) {
	for _, b := range nans() {
		wantMost(t, []uint64{b}, nan)
		wantMost(t, []uint64{b, infinity}, nan)
		wantMost(t, []uint64{infinity, b}, nan)
		wantMost(t, []uint64{oneBits, b, minus}, nan)
		wantMost(t, []uint64{b, nan | 1, oneBits}, nan)
	}
}

func TestMostOfLongLists(t *testing.T) {
	list := mixed(3000)
	list = slices.DeleteFunc(list, isNaNBits)
	for i := range 200 {
		part := list[i*7 : i*7+i]
		want := uint64(infinity | minus)
		for _, b := range part {
			if place(b) > place(want) {
				want = b
			}
		}
		wantMost(t, part, want)
	}
}

func wantSum(t *testing.T, list []uint64, want uint64) {
	t.Helper()
	wantBits(t, "Sum of "+strconv.Itoa(len(list))+" floats", cell.Sum(floats(list...)), want)
}

func TestSumOfNoneIsZeroWithoutAMinus(t *testing.T) {
	wantBits(t, "Sum(nil)", cell.Sum(nil), 0)
	wantBits(t, "Sum of an empty list", cell.Sum([]float64{}), 0)
}

func TestSumOfZerosHasNoMinus(t *testing.T) {
	wantSum(t, []uint64{minus}, 0)
	wantSum(t, []uint64{minus, minus}, 0)
	wantSum(t, []uint64{0, minus}, 0)
	wantSum(t, []uint64{oneBits, oneBits | minus}, 0)
	wantSum(t, []uint64{oneBits | minus, oneBits, minus}, 0)
}

func TestSumGoesFromTheLeft(t *testing.T) {
	for _, c := range []struct {
		list []float64
		want float64
	}{
		{[]float64{1 << 53, 1, 1}, 1 << 53},
		{[]float64{1, 1, 1 << 53}, 1<<53 + 2},
		{[]float64{1, 1 << 53, 1}, 1 << 53},
		{[]float64{1e300, 1, -1e300}, 0},
		{[]float64{1e300, -1e300, 1}, 1},
		{[]float64{0.1, 0.2, 0.3}, 0.6000000000000001},
		{[]float64{0.3, 0.2, 0.1}, 0.6},
		{[]float64{math.MaxFloat64, math.MaxFloat64, -math.MaxFloat64}, math.Inf(1)},
		{[]float64{math.MaxFloat64, -math.MaxFloat64, math.MaxFloat64}, math.MaxFloat64},
		{[]float64{0x1p-1074, 0x1p-1074, 0x1p-1074}, 0x1p-1074 * 3},
		{[]float64{7}, 7},
	} {
		wantBits(t, "a sum from the left", cell.Sum(c.list), math.Float64bits(c.want))
	}
}

func TestSumWithNaNIsTheCanonicalOne(t *testing.T) {
	wantSum(t, []uint64{infinity, infinity | minus}, nan)
	wantSum(t, []uint64{infinity | minus, oneBits, infinity, oneBits}, nan)
	wantSum(t, []uint64{greatest, greatest, infinity | minus}, nan)
	wantSum(t, []uint64{infinity, oneBits, infinity}, infinity)
	for _, b := range nans() {
		wantSum(t, []uint64{b}, nan)
		wantSum(t, []uint64{oneBits, b}, nan)
		wantSum(t, []uint64{b, infinity, oneBits}, nan)
	}
}

func TestSumOfLongLists(t *testing.T) {
	list := mixed(3000)
	for i := range 200 {
		part := slices.DeleteFunc(slices.Clone(list[i*7:i*7+i]), func(b uint64) bool { return b&infinity == infinity })
		want := uint64(0)
		for _, b := range part {
			want = together(want, b)
		}
		wantSum(t, part, want)
	}
}

func TestListsStayAsTheyAre(t *testing.T) {
	was := []uint64{oneBits, nan | 1, minus, infinity, infinity | 1, oneBits | minus, 0}
	whole := floats(was...)
	cell.Most(whole[:4])
	cell.Sum(whole[:4])
	cell.Most(whole[:2:2])
	cell.Sum(whole)
	for i, f := range whole {
		wantBits(t, "the float "+strconv.Itoa(i)+" of a list that was handed in", f, was[i])
	}
}

// P2.3

func TestACellThatIsReadAndWrittenIsTheSame(t *testing.T) {
	for _, b := range append(edges(), mixed(20000)...) {
		f, e := cell.Float(plain(b))
		if e != api.OK {
			t.Fatalf("Float of the cell %s: %d", hex(b), e)
		}
		if got := cell.Bytes(f); got != plain(settled(b)) {
			t.Errorf("the cell %s comes back as %x", hex(b), got)
		}
	}
}

func TestAddingZeroChangesJustTwoKinds(t *testing.T) {
	for _, b := range append(edges(), mixed(20000)...) {
		got, e := cell.Add(plain(b), 0)
		if e != api.OK {
			t.Fatalf("Add of the cell %s and 0: %d", hex(b), e)
		}
		changes := b == minus || isNaNBits(b) && b != nan
		if changed := got != plain(b); changed != changes {
			t.Errorf("Add of the cell %s and 0: %x", hex(b), got)
		}
	}
}
