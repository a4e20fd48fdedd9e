package disk_test

import (
	"fmt"
	"math"
	"slices"
	"strconv"
	"strings"
	"testing"

	"careen/api"
	"careen/disk"
)

// noughts is what is in a sector at first.
const noughts = '\x00'

// full is a sector's text of one sign.
func full(c byte) string {
	return strings.Repeat(string([]byte{c}), 128)
}

// brief tells a text of one sign by that sign, and how often it stands there.
func brief(s string) string {
	if s != "" && strings.Count(s, s[:1]) == len(s) {
		return strconv.Quote(s[:1]) + "*" + strconv.Itoa(len(s))
	}
	return strconv.Quote(s)
}

// made is a new disk of n sectors.
func made(t *testing.T, n int) *disk.Disk {
	t.Helper()
	d, e := disk.New(n)
	if e != api.OK || d == nil {
		t.Fatalf("New(%d): %v, %d", n, d != nil, e)
	}
	return d
}

func want(t *testing.T, what string, got, e api.Errno) {
	t.Helper()
	if got != e {
		t.Errorf("%s: %d, not %d", what, got, e)
	}
}

// write writes a sector of one sign, which has to be borne.
func write(t *testing.T, d *disk.Disk, i int, c byte) {
	t.Helper()
	want(t, "Write", d.Write(i, full(c)), api.OK)
}

func sync(t *testing.T, d *disk.Disk) {
	t.Helper()
	want(t, "Sync", d.Sync(), api.OK)
}

// holds tells whether the disk has the power, and its sectors these signs from 0 on.
func holds(t *testing.T, what string, d *disk.Disk, signs string) {
	t.Helper()
	if d.Dead() {
		t.Errorf("%s: the power is gone", what)
	}
	if got := d.Size(); got != len(signs) {
		t.Errorf("%s: %d sectors, not %d", what, got, len(signs))
	}
	for i := range len(signs) {
		if s, e := d.Read(i); e != api.OK || s != full(signs[i]) {
			t.Errorf("%s: Read(%d): %s, %d, not %q", what, i, brief(s), e, signs[i])
		}
	}
}

func wantWaiting(t *testing.T, what string, d *disk.Disk, n int) {
	t.Helper()
	if got := d.Waiting(); got != n {
		t.Errorf("%s: %d wait, not %d", what, got, n)
	}
}

// wantDead holds each call of a disk whose power is gone, and of which n writes wait, against the document.
func wantDead(t *testing.T, what string, d *disk.Disk, n int) {
	t.Helper()
	size := d.Size()
	for _, i := range []int{0, size - 1} {
		want(t, what+": Write", d.Write(i, full('!')), api.ErrDead)
		want(t, what+": Lose", d.Lose(i), api.ErrDead)
		if s, e := d.Read(i); e != api.ErrDead || s != "" {
			t.Errorf("%s: Read(%d): %s, %d, not ErrDead", what, i, brief(s), e)
		}
	}
	want(t, what+": Sync", d.Sync(), api.ErrDead)
	if !d.Dead() {
		t.Errorf("%s: the power isn't gone", what)
	}
	wantWaiting(t, what, d, n)
}

// beyond is numbers of no sector of a disk of n.
func beyond(n int) []int {
	return []int{-1, -2, -n, n, n + 1, 2 * n, 512, 1 << 32, math.MinInt, math.MaxInt}
}

// otherTexts is texts that aren't of a sector's length.
func otherTexts() []string {
	var list []string
	for _, n := range []int{0, 1, 2, 112, 127, 129, 130, 255, 256, 384, 1 << 16} {
		list = append(list, strings.Repeat("\x00", n), strings.Repeat("x", n))
	}
	return list
}

// The chapter's examples.

func TestExamples(t *testing.T) {
	for _, c := range []struct {
		pick uint8
		want string
	}{{0, "a"}, {1, "b"}, {2, "\x00"}} {
		d := made(t, 1)
		write(t, d, 0, 'a')
		sync(t, d)
		write(t, d, 0, 'b')
		d.Crash([]uint8{c.pick})
		holds(t, "behind a crash with "+strconv.Itoa(int(c.pick)), d, c.want)
	}
	d := made(t, 1)
	d.Arm(1)
	want(t, "a write with a fuse of 1", d.Write(0, full('a')), api.OK)
	want(t, "the next one", d.Write(0, full('b')), api.ErrDead)
	wantDead(t, "behind it", d, 1)
}

// P3.1

func TestNewHasNoughtsInEachSector(t *testing.T) {
	for _, n := range []int{1, 2, 3, 7, 64, 511, 512} {
		d := made(t, n)
		wantWaiting(t, "a new disk", d, 0)
		holds(t, "a new disk", d, strings.Repeat("\x00", n))
	}
}

func TestNewRefusesOtherSizes(t *testing.T) {
	for _, n := range []int{0, -1, -2, -512, 513, 514, 1024, 1 << 32, 1<<32 + 1, math.MinInt, math.MaxInt} {
		if d, e := disk.New(n); e != api.ErrArg || d != nil {
			t.Errorf("New(%d): a disk: %v, %d, not ErrArg", n, d != nil, e)
		}
	}
}

func TestDisksKnowNothingOfEachOther(t *testing.T) {
	a, b := made(t, 2), made(t, 2)
	write(t, a, 0, 'a')
	sync(t, a)
	write(t, a, 1, 'b')
	a.Arm(0)
	wantWaiting(t, "the other disk", b, 0)
	holds(t, "the other disk", b, "\x00\x00")
	sync(t, b)
}

func TestEachSectorIsReadAsItWasWritten(t *testing.T) {
	for _, n := range []int{1, 2, 512} {
		d := made(t, n)
		signs := make([]byte, n)
		for i := range n {
			signs[i] = byte(i + i>>8 + 1)
			write(t, d, i, signs[i])
			wantWaiting(t, "behind a write", d, i+1)
		}
		holds(t, "ahead of the sync", d, string(signs))
		sync(t, d)
		wantWaiting(t, "behind the sync", d, 0)
		holds(t, "behind the sync", d, string(signs))
		d.Crash([]uint8{2})
		holds(t, "behind a crash", d, string(signs))
	}
}

func TestAWriteTouchesItsSectorAlone(t *testing.T) {
	for i := range 4 {
		d := made(t, 4)
		signs := []byte(strings.Repeat("\x00", 4))
		write(t, d, i, 'w')
		signs[i] = 'w'
		holds(t, "a write", d, string(signs))
		sync(t, d)
		holds(t, "a sync", d, string(signs))
	}
}

func TestTextsAreAnyBytes(t *testing.T) {
	d := made(t, 3)
	all := make([]byte, 256)
	for i := range all {
		all[i] = byte(i)
	}
	texts := []string{string(all[:128]), string(all[128:]), full(noughts)}
	for i, s := range texts {
		want(t, "Write", d.Write(i, s), api.OK)
	}
	for range 2 {
		for i, s := range texts {
			if got, e := d.Read(i); e != api.OK || got != s {
				t.Errorf("Read(%d): %q, %d, not %q", i, got, e, s)
			}
		}
		sync(t, d)
	}
}

func TestTheLastOfSeveralWritesIsRead(t *testing.T) {
	d := made(t, 2)
	for i, c := range []byte("abcab") {
		write(t, d, 1, c)
		write(t, d, 0, c+1)
		wantWaiting(t, "several writes", d, 2*i+2)
		holds(t, "several writes", d, string([]byte{c + 1, c}))
	}
	write(t, d, 1, noughts)
	holds(t, "noughts behind them", d, "c\x00")
	sync(t, d)
	wantWaiting(t, "behind the sync", d, 0)
	holds(t, "behind the sync", d, "c\x00")
	write(t, d, 0, 'x')
	wantWaiting(t, "a write behind the sync", d, 1)
	holds(t, "a write behind the sync", d, "x\x00")
	sync(t, d)
	sync(t, d)
	holds(t, "syncs of none and of one", d, "x\x00")
}

func TestASyncIsOfAllSectorsAndForGood(t *testing.T) {
	d := made(t, 3)
	write(t, d, 0, 'a')
	write(t, d, 2, 'b')
	write(t, d, 2, 'c')
	write(t, d, 0, 'd')
	sync(t, d)
	write(t, d, 1, 'e')
	for range 3 {
		d.Crash(nil)
		holds(t, "behind crashes", d, "d\x00c")
	}
}

func TestWrongCallsAnswerTheErrorThatComesFirst(t *testing.T) {
	for _, n := range []int{1, 3, 512} {
		d := made(t, n)
		signs := strings.Repeat("\x00", n-1) + "w"
		write(t, d, n-1, 'w')
		for _, i := range beyond(n) {
			if i == n-1 || i == 0 {
				continue
			}
			want(t, "Write of no sector", d.Write(i, full('x')), api.ErrRange)
			want(t, "Write of no sector and no text of a sector", d.Write(i, "x"), api.ErrRange)
			want(t, "Lose of no sector", d.Lose(i), api.ErrRange)
			if s, e := d.Read(i); e != api.ErrRange || s != "" {
				t.Errorf("Read(%d): %s, %d, not ErrRange", i, brief(s), e)
			}
		}
		for _, s := range otherTexts() {
			want(t, "Write of "+strconv.Itoa(len(s))+" bytes", d.Write(0, s), api.ErrArg)
			want(t, "Write of "+strconv.Itoa(len(s))+" bytes", d.Write(n-1, s), api.ErrArg)
		}
		wantWaiting(t, "behind wrong calls", d, 1)
		holds(t, "behind wrong calls", d, signs)
		sync(t, d)
		holds(t, "behind wrong calls and a sync", d, signs)
	}
}

func TestWithoutPowerTheErrorThatComesFirst(t *testing.T) {
	d := made(t, 3)
	d.Arm(0)
	want(t, "Sync", d.Sync(), api.ErrDead)
	for range 2 {
		for _, i := range beyond(3) {
			want(t, "Write of no sector", d.Write(i, full('x')), api.ErrRange)
			want(t, "Write of no sector and no text of a sector", d.Write(i, ""), api.ErrRange)
			want(t, "Lose of no sector", d.Lose(i), api.ErrDead)
			if s, e := d.Read(i); e != api.ErrDead || s != "" {
				t.Errorf("Read(%d): %s, %d, not ErrDead", i, brief(s), e)
			}
		}
		for _, s := range otherTexts() {
			want(t, "Write of "+strconv.Itoa(len(s))+" bytes", d.Write(0, s), api.ErrArg)
		}
		wantDead(t, "a disk without power", d, 0)
	}
	d.Crash(nil)
	holds(t, "when the power is there again", d, "\x00\x00\x00")
}

// P3.2

func TestAFuseBearsSoManyWritesAndSyncs(t *testing.T) {
	for k := range 12 {
		d := made(t, 2)
		d.Arm(k)
		waiting := 0
		for j := range k { // each third one is a sync
			if j%3 == 2 {
				sync(t, d)
				waiting = 0
			} else {
				write(t, d, j%2, byte('a'+j))
				waiting++
			}
			if d.Dead() {
				t.Fatalf("a fuse of %d: the power is gone behind %d", k, j+1)
			}
		}
		for _, other := range []*disk.Disk{d.Copy(), d} {
			if other == d {
				want(t, "the write behind a fuse", other.Write(0, full('!')), api.ErrDead)
			} else {
				want(t, "the sync behind a fuse", other.Sync(), api.ErrDead)
			}
			wantDead(t, "a fuse of "+strconv.Itoa(k), other, waiting)
		}
	}
}

func TestThePowerIsThereTillSomethingIsNotBorne(t *testing.T) {
	d := made(t, 2)
	write(t, d, 0, 'a')
	d.Arm(0)
	holds(t, "a fuse of 0", d, "a\x00")
	wantWaiting(t, "a fuse of 0", d, 1)
	want(t, "Lose", d.Lose(0), api.OK)
	holds(t, "Lose with a fuse of 0", d, "\x00\x00")
	want(t, "Sync", d.Sync(), api.ErrDead)
	wantDead(t, "behind it", d, 0)
}

func TestOnlyWritesAndSyncsUseTheFuse(t *testing.T) {
	d := made(t, 2)
	write(t, d, 0, 'a')
	d.Arm(2)
	for range 5 {
		holds(t, "a fuse of 2", d, "a\x00")
		want(t, "Write of no sector", d.Write(2, full('x')), api.ErrRange)
		want(t, "Write of no text of a sector", d.Write(0, "x"), api.ErrArg)
		want(t, "Lose", d.Lose(1), api.OK)
		want(t, "Lose of no sector", d.Lose(-1), api.ErrRange)
		d.Copy().Sync()
	}
	write(t, d, 1, 'b')
	sync(t, d)
	want(t, "Write", d.Write(0, full('!')), api.ErrDead)
	wantDead(t, "behind it", d, 0)
}

func TestArmSetsTheFuseAnew(t *testing.T) {
	for _, none := range []int{-1, -2, math.MinInt} {
		d := made(t, 1)
		d.Arm(0)
		d.Arm(none)
		for range 200 {
			write(t, d, 0, 'a')
			sync(t, d)
		}
		d.Arm(1)
		d.Arm(3)
		write(t, d, 0, 'b')
		write(t, d, 0, 'c')
		d.Arm(1)
		write(t, d, 0, 'd')
		want(t, "Sync behind the fuse", d.Sync(), api.ErrDead)
	}
	d := made(t, 1)
	d.Arm(math.MaxInt)
	for range 1000 {
		write(t, d, 0, 'a')
		sync(t, d)
	}
}

func TestArmBringsNoPower(t *testing.T) {
	for _, k := range []int{-1, 0, 1, 5} {
		d := made(t, 2)
		write(t, d, 0, 'a')
		d.Arm(0)
		want(t, "Write", d.Write(1, full('b')), api.ErrDead)
		d.Arm(k)
		wantDead(t, "armed without power", d, 1)
		d.Crash([]uint8{1})
		holds(t, "when the power is there again", d, "a\x00")
		for range 20 {
			write(t, d, 1, 'c')
			sync(t, d)
		}
	}
}

func TestACrashTakesTheFuseAway(t *testing.T) {
	for _, k := range []int{0, 1, 3} {
		d := made(t, 1)
		d.Arm(k)
		d.Crash(nil)
		for range 20 {
			write(t, d, 0, 'a')
			sync(t, d)
		}
		holds(t, "behind a crash", d, "a")
	}
}

func TestAnUnborneSyncMakesNothingSafe(t *testing.T) {
	for pick, signs := range []string{"a\x00", "bc", "\x00\x00"} {
		d := made(t, 2)
		write(t, d, 0, 'a')
		sync(t, d)
		write(t, d, 0, 'b')
		write(t, d, 1, 'c')
		d.Arm(0)
		want(t, "Sync", d.Sync(), api.ErrDead)
		wantDead(t, "behind it", d, 2)
		d.Crash([]uint8{uint8(pick)})
		wantWaiting(t, "behind the crash", d, 0)
		holds(t, "behind a crash with "+strconv.Itoa(pick), d, signs)
	}
}

func TestAnUnborneWriteIsNoneThatWaits(t *testing.T) {
	d := made(t, 3)
	d.Arm(1)
	write(t, d, 0, 'a')
	want(t, "Write", d.Write(1, full('b')), api.ErrDead)
	want(t, "Write", d.Write(0, full('c')), api.ErrDead)
	wantDead(t, "behind them", d, 1)
	d.Crash([]uint8{1, 2, 2})
	holds(t, "behind the crash", d, "a\x00\x00")
}

func TestCrashPicksGoByTheOrderOfWrites(t *testing.T) {
	// Six writes wait: of the sectors 2, 0, 1, 0, 2, 0.
	for _, c := range []struct {
		name  string
		picks []uint8
		want  string
	}{
		{"none", nil, "pqr"},
		{"none, but a list", []uint8{}, "pqr"},
		{"all lost", []uint8{0}, "pqr"},
		{"all safe", []uint8{1}, "fce"},
		{"all noughts", []uint8{2}, "\x00\x00\x00"},
		{"each second one safe", []uint8{0, 1}, "fqr"},
		{"the other ones", []uint8{1, 0}, "pce"},
		{"three picks, twice", []uint8{1, 2, 0}, "dq\x00"},
		{"four picks", []uint8{2, 1, 0, 0}, "fq\x00"},
		{"five picks", []uint8{0, 0, 2, 1, 1}, "d\x00e"},
		{"the first one", []uint8{1, 0, 0, 0, 0, 0}, "pqa"},
		{"the second one", []uint8{0, 1, 0, 0, 0, 0}, "bqr"},
		{"the fourth one", []uint8{0, 0, 0, 1, 0, 0}, "dqr"},
		{"the last one noughts", []uint8{0, 1, 0, 1, 0, 2}, "\x00qr"},
		{"noughts, then safe", []uint8{2, 2, 0, 0, 1, 1}, "fqe"},
		{"more picks than writes", []uint8{0, 0, 0, 0, 0, 1, 2, 2, 2}, "fqr"},
		{"picks above 2", []uint8{255, 253, 254, 3, 4, 5}, "\x00\x00e"},
		{"picks far above 2", []uint8{6, 7, 8, 9, 100, 102}, "b\x00e"},
	} {
		d := made(t, 3)
		for i, sign := range []byte("pqr") {
			write(t, d, i, sign)
		}
		sync(t, d)
		for j, i := range []int{2, 0, 1, 0, 2, 0} {
			write(t, d, i, byte('a'+j))
		}
		d.Crash(c.picks)
		wantWaiting(t, c.name, d, 0)
		holds(t, c.name, d, c.want)
		d.Crash([]uint8{2, 1})
		holds(t, c.name+", and a crash behind it", d, c.want)
	}
}

func TestEachPickIsTakenModulo3(t *testing.T) {
	for pick := range 256 {
		d := made(t, 1)
		write(t, d, 0, 'a')
		sync(t, d)
		write(t, d, 0, 'b')
		d.Crash([]uint8{uint8(pick)})
		holds(t, "a crash with "+strconv.Itoa(pick), d, []string{"a", "b", "\x00"}[pick%3])
	}
}

func TestPicksStayAsTheyAre(t *testing.T) {
	was := []uint8{2, 5, 0, 1, 255, 4, 9}
	picks := slices.Clone(was)
	d := made(t, 2)
	for j := range 5 {
		write(t, d, j%2, 'a')
	}
	d.Crash(picks[:3])
	write(t, d, 0, 'b')
	d.Crash(picks)
	if !slices.Equal(picks, was) {
		t.Errorf("the picks are %v behind the crash, not %v", picks, was)
	}
}

func TestManyWritesWait(t *testing.T) {
	d := made(t, 512)
	const n = 20000
	for j := range n {
		write(t, d, j%511, byte(j%250+1))
	}
	wantWaiting(t, "many writes", d, n)
	d.Crash([]uint8{0, 1}) // 511 is odd: of each sector each second write is safe
	signs := make([]byte, 512)
	for j := 1; j < n; j += 2 {
		signs[j%511] = byte(j%250 + 1)
	}
	holds(t, "behind the crash", d, string(signs))
}

// P3.3

func TestLoseMakesNoughtsSafely(t *testing.T) {
	for _, i := range []int{0, 1, 2} {
		d := made(t, 3)
		signs := []byte("abc")
		for j, sign := range signs {
			write(t, d, j, sign)
		}
		sync(t, d)
		want(t, "Lose", d.Lose(i), api.OK)
		signs[i] = noughts
		wantWaiting(t, "behind it", d, 0)
		holds(t, "behind it", d, string(signs))
		d.Crash([]uint8{1})
		holds(t, "behind a crash", d, string(signs))
		write(t, d, i, 'd')
		signs[i] = 'd'
		holds(t, "written again", d, string(signs))
		sync(t, d)
		d.Crash(nil)
		holds(t, "safe again", d, string(signs))
	}
}

func TestLoseTakesTheWritesThatWait(t *testing.T) {
	for pick, signs := range []string{"\x00pq", "\x00ce", "\x00\x00\x00"} {
		d := made(t, 3)
		for i, sign := range []byte("opq") {
			write(t, d, i, sign)
		}
		sync(t, d)
		for j, i := range []int{0, 0, 1, 0, 2, 0} {
			write(t, d, i, byte('a'+j))
		}
		want(t, "Lose", d.Lose(0), api.OK)
		wantWaiting(t, "behind it", d, 2)
		holds(t, "behind it", d, "\x00ce")
		synced := d.Copy()
		sync(t, synced)
		synced.Crash(nil)
		holds(t, "behind a sync", synced, "\x00ce")
		d.Crash([]uint8{uint8(pick)})
		holds(t, "behind a crash", d, signs)
	}
}

func TestPicksDoNotCountWritesThatLoseTook(t *testing.T) {
	d := made(t, 4)
	for j, i := range []int{0, 1, 0, 2, 3, 1} {
		write(t, d, i, byte('a'+j))
	}
	want(t, "Lose", d.Lose(0), api.OK)
	write(t, d, 0, 'g')
	wantWaiting(t, "behind it", d, 5)
	d.Crash([]uint8{1, 0, 2, 0, 1})
	holds(t, "behind a crash", d, "gb\x00\x00")
}

func TestLoseOfASectorThatWasNeverWritten(t *testing.T) {
	d := made(t, 512)
	write(t, d, 1, 'a')
	for _, i := range []int{0, 511, 511} {
		want(t, "Lose", d.Lose(i), api.OK)
	}
	wantWaiting(t, "behind it", d, 1)
	holds(t, "behind it", d, "\x00a"+strings.Repeat("\x00", 510))
}

func TestCopyHasTheSame(t *testing.T) {
	d := made(t, 3)
	write(t, d, 0, 'a')
	sync(t, d)
	write(t, d, 1, 'b')
	write(t, d, 0, 'c')
	d.Arm(2)
	for range 3 { // a copy, and a copy of that one
		d = d.Copy()
		wantWaiting(t, "a copy", d, 2)
		holds(t, "a copy", d, "cb\x00")
	}
	crashed := d.Copy()
	crashed.Crash([]uint8{1, 0})
	holds(t, "a copy that crashed", crashed, "ab\x00")
	write(t, d, 2, 'd')
	sync(t, d)
	holds(t, "the copy", d, "cbd")
	want(t, "Write behind the fuse", d.Write(0, full('x')), api.ErrDead)
	wantDead(t, "a copy without power", d, 0)
	dead := d.Copy()
	d.Crash(nil)
	wantDead(t, "a copy of one without power", dead, 0)
	holds(t, "the other one", d, "cbd")
}

func TestCopiesKnowNothingOfEachOther(t *testing.T) {
	d := made(t, 3)
	for j, i := range []int{0, 1, 0} {
		write(t, d, i, byte('a'+j))
	}
	c := d.Copy()
	write(t, d, 2, 'd')
	write(t, c, 2, 'e')
	write(t, c, 1, 'f')
	wantWaiting(t, "the disk", d, 4)
	wantWaiting(t, "the copy", c, 5)
	holds(t, "the disk", d, "cbd")
	holds(t, "the copy", c, "cfe")
	want(t, "Lose", c.Lose(0), api.OK)
	holds(t, "the disk behind the copy's loss", d, "cbd")
	other := d.Copy()
	want(t, "Lose", d.Lose(1), api.OK)
	holds(t, "the copy behind the disk's loss", c, "\x00fe")
	other.Crash([]uint8{1})
	holds(t, "another copy behind it", other, "cbd")
	sync(t, d)
	wantWaiting(t, "the copy behind the disk's sync", c, 3)
	c.Arm(0)
	want(t, "Sync", c.Sync(), api.ErrDead)
	wantDead(t, "the copy", c, 3)
	write(t, d, 0, 'g')
	d.Crash(nil)
	holds(t, "the disk", d, "c\x00d")
	c.Crash([]uint8{1})
	holds(t, "the copy", c, "\x00fe")
}

func TestANilDisk(t *testing.T) {
	var d *disk.Disk
	for range 2 {
		for _, i := range []int{0, -1, 512, math.MinInt, math.MaxInt} {
			want(t, "Write", d.Write(i, full('a')), api.ErrNil)
			want(t, "Write", d.Write(i, "a"), api.ErrNil)
			want(t, "Lose", d.Lose(i), api.ErrNil)
			if s, e := d.Read(i); e != api.ErrNil || s != "" {
				t.Errorf("Read(%d): %s, %d, not ErrNil", i, brief(s), e)
			}
			d.Arm(i)
		}
		want(t, "Sync", d.Sync(), api.ErrNil)
		d.Crash(nil)
		d.Crash([]uint8{1})
		if d.Dead() || d.Size() != 0 || d.Waiting() != 0 || d.Copy() != nil {
			t.Errorf("Dead %v, Size %d, Waiting %d, a Copy: %v", d.Dead(), d.Size(), d.Waiting(), d.Copy() != nil)
		}
	}
}

func TestADiskThatNewDidNotMakeHasNoSectors(t *testing.T) {
	for _, d := range []*disk.Disk{{}, (&disk.Disk{}).Copy()} {
		want(t, "Write", d.Write(0, full('a')), api.ErrRange)
		want(t, "Lose", d.Lose(0), api.ErrRange)
		if s, e := d.Read(0); e != api.ErrRange || s != "" {
			t.Errorf("Read: %s, %d, not ErrRange", brief(s), e)
		}
		sync(t, d)
		d.Crash([]uint8{1})
		holds(t, "behind a crash", d, "")
		d.Arm(0)
		want(t, "Sync with a fuse of 0", d.Sync(), api.ErrDead)
	}
}

// P3.4

// TestEveryCrashOfFewWrites goes through each row of four writes of three sectors, and through each of its crashes, also ones amid the row.
func TestEveryCrashOfFewWrites(t *testing.T) {
	for row := range 81 {
		for borne := range 5 {
			d := made(t, 3)
			for i, sign := range []byte("pqr") {
				write(t, d, i, sign)
			}
			sync(t, d)
			d.Arm(borne)
			may := []string{"p", "q", "r"} // the signs that each sector may have, at last
			for j, rest := 0, row; j < 4; j, rest = j+1, rest/3 {
				if d.Write(rest%3, full(byte('a'+j))) == api.OK {
					may[rest%3] += string([]byte{byte('a' + j)})
				}
			}
			for crash := range 81 {
				c := d.Copy()
				c.Crash([]uint8{uint8(crash % 3), uint8(crash / 3 % 3), uint8(crash / 9 % 3), uint8(crash / 27)})
				for i, signs := range may {
					if len(signs) > 1 {
						signs += "\x00"
					}
					s, e := c.Read(i)
					if e != api.OK || !strings.Contains(signs, s[:1]) || s != full(s[0]) {
						t.Fatalf("the row %d, %d of it borne, the crash %d: the sector %d is %s, %d, none of %q", row, borne, crash, i, brief(s), e, signs)
					}
				}
			}
		}
	}
}

// TestEachSignThatMayBeThereIs holds the other half of it: what a crash may leave, one does leave.
func TestEachSignThatMayBeThereIs(t *testing.T) {
	d := made(t, 1)
	write(t, d, 0, 'p')
	sync(t, d)
	for _, c := range []byte("abc") {
		write(t, d, 0, c)
	}
	seen := map[string]bool{}
	for crash := range 27 {
		c := d.Copy()
		c.Crash([]uint8{uint8(crash % 3), uint8(crash / 3 % 3), uint8(crash / 9)})
		s, _ := c.Read(0)
		seen[s] = true
	}
	for _, sign := range []byte("pabc\x00") {
		if !seen[full(sign)] {
			t.Errorf("no crash leaves %q", sign)
		}
	}
	if len(seen) != 5 {
		t.Errorf("crashes leave %d texts, not 5", len(seen))
	}
}

// All of it together.

// plain is a disk as the document tells it, without a thought of speed: a list of all writes since the last sync or crash.
type plain struct {
	safe    []byte
	sectors []int
	signs   []byte
	dead    bool
	fuse    int // -1: none
}

func (p *plain) copy() *plain {
	c := *p
	c.safe, c.sectors, c.signs = slices.Clone(p.safe), slices.Clone(p.sectors), slices.Clone(p.signs)
	return &c
}

func (p *plain) bear() api.Errno {
	switch {
	case p.dead:
		return api.ErrDead
	case p.fuse == 0:
		p.dead = true
		return api.ErrDead
	case p.fuse > 0:
		p.fuse--
	}
	return api.OK
}

func (p *plain) write(i int, c byte, size int) api.Errno {
	if i < 0 || i >= len(p.safe) {
		return api.ErrRange
	}
	if size != 128 {
		return api.ErrArg
	}
	e := p.bear()
	if e == api.OK {
		p.sectors, p.signs = append(p.sectors, i), append(p.signs, c)
	}
	return e
}

func (p *plain) settle(picks []uint8) {
	for j, i := range p.sectors {
		pick := uint8(0)
		if len(picks) > 0 {
			pick = picks[j%len(picks)] % 3
		}
		if pick == 1 {
			p.safe[i] = p.signs[j]
		} else if pick == 2 {
			p.safe[i] = 0
		}
	}
	p.sectors, p.signs = nil, nil
}

func (p *plain) sync() api.Errno {
	e := p.bear()
	if e == api.OK {
		p.settle([]uint8{1})
	}
	return e
}

func (p *plain) reach(i int) api.Errno {
	if p.dead {
		return api.ErrDead
	}
	if i < 0 || i >= len(p.safe) {
		return api.ErrRange
	}
	return api.OK
}

func (p *plain) lose(i int) api.Errno {
	e := p.reach(i)
	if e == api.OK {
		sectors, signs := p.sectors, p.signs
		p.sectors, p.signs = nil, nil
		for j, k := range sectors {
			if k != i {
				p.sectors, p.signs = append(p.sectors, k), append(p.signs, signs[j])
			}
		}
		p.safe[i] = 0
	}
	return e
}

func (p *plain) read(i int) (string, api.Errno) {
	if e := p.reach(i); e != api.OK {
		return "", e
	}
	sign := p.safe[i]
	for j, k := range p.sectors {
		if k == i {
			sign = p.signs[j]
		}
	}
	return full(sign), api.OK
}

// dice is a row of numbers that look like any ones, the same at each run.
type dice uint64

func (x *dice) below(n int) int {
	*x ^= *x << 13
	*x ^= *x >> 7
	*x ^= *x << 17
	return int(uint64(*x) >> 33 % uint64(n))
}

func wantSame(t *testing.T, what string, d *disk.Disk, p *plain) {
	t.Helper()
	if d.Dead() != p.dead || d.Waiting() != len(p.sectors) || d.Size() != len(p.safe) {
		t.Fatalf("%s: Dead %v, Waiting %d, Size %d, not %v, %d, %d", what, d.Dead(), d.Waiting(), d.Size(), p.dead, len(p.sectors), len(p.safe))
	}
	for i := -1; i <= len(p.safe); i++ {
		got, e := d.Read(i)
		if s, f := p.read(i); got != s || e != f {
			t.Fatalf("%s: Read(%d): %s, %d, not %s, %d", what, i, brief(got), e, brief(s), f)
		}
	}
}

// step does one thing to a disk and to its plain one.
func step(t *testing.T, x *dice, d *disk.Disk, p *plain) string {
	t.Helper()
	i := x.below(len(p.safe)+2) - 1
	var got, want api.Errno
	what := ""
	switch k := x.below(40); {
	case k < 22:
		sign, size := byte(x.below(26)+'a'), 128
		if x.below(20) == 0 {
			size = x.below(260)
		}
		what = fmt.Sprintf("Write(%d, %q*%d)", i, sign, size)
		got, want = d.Write(i, strings.Repeat(string([]byte{sign}), size)), p.write(i, sign, size)
	case k < 28:
		what = "Sync()"
		got, want = d.Sync(), p.sync()
	case k < 31:
		what = fmt.Sprintf("Lose(%d)", i)
		got, want = d.Lose(i), p.lose(i)
	case k < 35:
		n := x.below(14) - 2
		what = fmt.Sprintf("Arm(%d)", n)
		d.Arm(n)
		p.fuse = max(n, -1)
	default:
		picks := make([]uint8, x.below(6))
		for j := range picks {
			picks[j] = uint8(x.below(256))
		}
		what = fmt.Sprintf("Crash(%v)", picks)
		d.Crash(picks)
		p.settle(picks)
		p.dead, p.fuse = false, -1
	}
	if got != want {
		t.Fatalf("%s: %d, not %d", what, got, want)
	}
	return what
}

func TestADiskIsAsAPlainOne(t *testing.T) {
	for seed := range 60 {
		x := dice(seed*7919 + 1)
		n := 1 + x.below(5)
		disks, plains := []*disk.Disk{made(t, n)}, []*plain{{safe: make([]byte, n), fuse: -1}}
		for j := range 800 {
			if x.below(60) == 0 && len(disks) < 4 {
				k := x.below(len(disks))
				disks, plains = append(disks, disks[k].Copy()), append(plains, plains[k].copy())
			}
			k := x.below(len(disks))
			what := step(t, &x, disks[k], plains[k])
			for m := range disks { // the others, too: they know nothing of it
				wantSame(t, fmt.Sprintf("the seed %d, the step %d, %s of the disk %d: the disk %d", seed, j, what, k, m), disks[m], plains[m])
			}
		}
	}
}
