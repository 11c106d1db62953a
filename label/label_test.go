package label

import (
	"hash/crc32"
	"math"
	"reflect"
	"slices"
	"strings"
	"sync"
	"testing"

	"trunnion/api"
	"trunnion/geom"
)

// ints are numbers of all sizes: those about the edges of states, members, stripes and bytes, and the least and greatest ones.
var ints = []int{math.MinInt, math.MinInt + 1, -1 << 32, -65, -64, -33, -2, -1, 0, 1, 2, 3, 4, 5, 6, 7, 8, 9, 10, 31, 32, 33, 62, 63, 64, 65, 127, 128, 129, 192, 255, 256, 257, 1 << 32, 1<<32 + 1, math.MaxInt - 1, math.MaxInt}

// epochs are those about the edges, and others: good ones first.
var epochs = []int64{1, 2, 255, 256, 0x0102030405060, 1<<53 - 1, 1 << 53, 0, -1, -1 << 53, 1<<53 + 1, 1 << 54, 1 << 62, math.MaxInt64, math.MinInt64, math.MinInt64 + 1}

// goodEpochs is how many of them are good.
const goodEpochs = 7

// mayBe is the chapter's sentence on good labels, with the limits as DOC.md writes them.
func mayBe(l Label) bool {
	if l.Members < 4 || l.Members > 32 || l.Stripes < 1 || l.Stripes > 64 {
		return false
	}
	if l.Epoch < 1 || l.Epoch > 9007199254740992 || len(l.States) != l.Members || len(l.Marks) != l.Members {
		return false
	}
	for i := range l.Members {
		state, mark := int(l.States[i]), l.Marks[i]
		if state != 0 && state != 1 && state != 2 {
			return false
		}
		if mark < 0 || mark > l.Stripes-1 || mark != 0 && state != 2 {
			return false
		}
	}
	return true
}

// summed is bytes with noughts behind them, their sum, and noughts.
func summed(s string) string {
	s += strings.Repeat("\x00", 46-len(s))
	n := crc32.ChecksumIEEE([]byte(s))
	s += string([]byte{byte(n >> 24), byte(n >> 16), byte(n >> 8), byte(n)})
	return s + strings.Repeat("\x00", 14)
}

// sectorOf is a good label's sector, piece by piece by the chapter's words.
func sectorOf(l Label) string {
	s := "TRUN"
	for _, shift := range []int{56, 48, 40, 32, 24, 16, 8, 0} {
		s += string([]byte{byte(l.Epoch >> shift)})
	}
	s += string([]byte{byte(l.Members), byte(l.Stripes)})
	for i := range l.Members {
		s += string([]byte{byte(int(l.States[i])*64 + l.Marks[i])})
	}
	return summed(s)
}

// fresh is the label of a new array.
func fresh(t *testing.T, members, stripes int) Label {
	t.Helper()
	l, e := New(geom.Geometry{Members: members, Stripes: stripes})
	if e != api.OK {
		t.Fatalf("New of %d members and %d stripes is %v", members, stripes, e)
	}
	return l
}

// mixed is a good label with members of all states, which differ by a seed.
func mixed(t *testing.T, members, stripes, seed int) Label {
	t.Helper()
	l := fresh(t, members, stripes)
	l.Epoch = epochs[seed%goodEpochs]
	for i := range members {
		l.States[i] = State((i + seed) % 3)
		if l.States[i] == Rebuilding {
			l.Marks[i] = (i*7 + seed*5) % stripes
		}
	}
	return l
}

// someGood are good labels of all geometries.
func someGood(t *testing.T) []Label {
	t.Helper()
	var all []Label
	for members := 4; members <= 32; members++ {
		for stripes := 1; stripes <= 64; stripes++ {
			all = append(all, fresh(t, members, stripes), mixed(t, members, stripes, members+stripes))
		}
	}
	return all
}

// someBad are labels that aren't good, each but for one thing.
func someBad(t *testing.T) []Label {
	t.Helper()
	all := []Label{{}, {Epoch: 1}, {Geometry: geom.Geometry{Members: 4, Stripes: 1}, Epoch: 1}}
	change := func(f func(l *Label)) {
		l := mixed(t, 6, 9, 1) // states 1, 2, 0, 1, 2, 0
		f(&l)
		all = append(all, l)
	}
	for _, e := range epochs[goodEpochs:] {
		change(func(l *Label) { l.Epoch = e })
	}
	for _, n := range ints {
		if n < 0 || n > 2 {
			change(func(l *Label) { l.States[3] = State(n) })
			change(func(l *Label) { l.States[5] = State(n) })
		}
		if n != 0 {
			change(func(l *Label) { l.Marks[0] = n })
			change(func(l *Label) { l.Marks[5] = n })
		}
		if n < 0 || n > 8 {
			change(func(l *Label) { l.Marks[1] = n })
		}
		if n != 6 {
			change(func(l *Label) { l.Members = n })
		}
		if n < 1 || n > 64 {
			change(func(l *Label) { l.Stripes = n })
		}
	}
	change(func(l *Label) { l.Stripes = 1 }) // a Mark is beyond it
	change(func(l *Label) { l.States = nil })
	change(func(l *Label) { l.Marks = nil })
	change(func(l *Label) { l.States = l.States[:5] })
	change(func(l *Label) { l.Marks = l.Marks[:5] })
	change(func(l *Label) { l.States = append(l.States, InSync) })
	change(func(l *Label) { l.Marks = append(l.Marks, 0) })
	for _, members := range []int{0, 1, 2, 3, 33, 34, 64, 255, 256, 260} {
		l := Label{Geometry: geom.Geometry{Members: members, Stripes: 9}, Epoch: 1}
		l.States, l.Marks = make([]State, members), make([]int, members)
		all = append(all, l)
	}
	return all
}

// none tells if a label is a zero one, whose lists may be nil or not.
func none(l Label) bool {
	return l.Geometry == geom.Geometry{} && l.Epoch == 0 && len(l.States) == 0 && len(l.Marks) == 0
}

// same tells if two labels say the same; it makes no difference if an empty list is nil.
func same(a, b Label) bool {
	return a.Geometry == b.Geometry && a.Epoch == b.Epoch && slices.Equal(a.States, b.States) && slices.Equal(a.Marks, b.Marks)
}

func TestStates(t *testing.T) {
	if InSync != 0 || Failed != 1 || Rebuilding != 2 {
		t.Errorf("the states are %d, %d, %d", InSync, Failed, Rebuilding)
	}
}

func TestNewP12_1(t *testing.T) {
	for _, members := range slices.Concat(ints, []int{11, 16, 30}) {
		for _, stripes := range ints {
			g := geom.Geometry{Members: members, Stripes: stripes}
			l, e := New(g)
			if members < 4 || members > 32 || stripes < 1 || stripes > 64 {
				if e != api.ErrForm || !none(l) {
					t.Errorf("New(%v) is %v, %v", g, l, e)
				}
				continue
			}
			want := Label{Geometry: g, Epoch: 1, States: make([]State, members), Marks: make([]int, members)}
			if e != api.OK || !same(l, want) || !l.Good() {
				t.Errorf("New(%v) is %v, %v", g, l, e)
			}
		}
	}
}

func TestGoodP12_1(t *testing.T) {
	for _, l := range someGood(t) {
		if !mayBe(l) || !l.Good() {
			t.Fatalf("%v isn't good", l)
		}
	}
	for _, l := range someBad(t) {
		if mayBe(l) || l.Good() {
			t.Errorf("%v is good", l)
		}
	}
}

func TestGoodOfEachEpochP12_1(t *testing.T) {
	for i, e := range epochs {
		l := fresh(t, 4, 1)
		l.Epoch = e
		if l.Good() != (i < goodEpochs) {
			t.Errorf("of the epoch %d: good is %t", e, l.Good())
		}
	}
}

// TestGoodOfEachStateAndMarkP12_1: each member is looked at, the first and the last one too.
func TestGoodOfEachStateAndMarkP12_1(t *testing.T) {
	for _, stripes := range []int{1, 2, 9, 63, 64} {
		for member := range 5 {
			for _, state := range ints {
				for _, mark := range ints {
					l := fresh(t, 5, stripes)
					l.States[member], l.Marks[member] = State(state), mark
					if l.Good() != mayBe(l) {
						t.Fatalf("%v: good is %t", l, l.Good())
					}
				}
			}
		}
	}
}

func TestGoodOfMembersThatAllFailedP12_1(t *testing.T) {
	l := fresh(t, 32, 64)
	for i := range 32 {
		l.States[i] = Failed
	}
	if !l.Good() || l.Missing() != 32 {
		t.Errorf("good is %t, %d are missing", l.Good(), l.Missing())
	}
	for i := range 32 {
		l.States[i], l.Marks[i] = Rebuilding, 63
	}
	if !l.Good() || l.Missing() != 32 {
		t.Errorf("good is %t, %d are missing", l.Good(), l.Missing())
	}
}

func TestPutExampleP12_1(t *testing.T) {
	s, e := Put(fresh(t, 4, 1))
	begins := "\x54\x52\x55\x4e\x00\x00\x00\x00\x00\x00\x00\x01\x04\x01\x00\x00\x00\x00"
	if e != api.OK || len(s) != 64 || !strings.HasPrefix(s, begins) {
		t.Errorf("the chapter's example: % x, %v", s, e)
	}
}

func TestPutWrittenOutP12_1(t *testing.T) {
	l := fresh(t, 5, 64)
	l.Epoch = 0x11223344556677
	l.States = []State{Failed, Rebuilding, InSync, Rebuilding, Rebuilding}
	l.Marks = []int{0, 63, 0, 0, 1}
	want := summed("TRUN\x00\x11\x22\x33\x44\x55\x66\x77\x05\x40\x40\xbf\x00\x80\x81")
	if s, e := Put(l); e != api.OK || s != want {
		t.Errorf("% x, %v, want % x", s, e, want)
	}
	l.Epoch = 1 << 53
	want = summed("TRUN\x00\x20\x00\x00\x00\x00\x00\x00\x05\x40\x40\xbf\x00\x80\x81")
	if s, e := Put(l); e != api.OK || s != want {
		t.Errorf("% x, %v, want % x", s, e, want)
	}
}

func TestPutP12_1(t *testing.T) {
	for _, l := range someGood(t) {
		if s, e := Put(l); e != api.OK || s != sectorOf(l) {
			t.Fatalf("Put(%v) is % x, %v, want % x", l, s, e, sectorOf(l))
		}
	}
	for _, l := range someBad(t) {
		if s, e := Put(l); e != api.ErrForm || s != "" {
			t.Errorf("Put(%v) is % x, %v", l, s, e)
		}
	}
}

func TestGetOfWhatWasPutP12_2(t *testing.T) {
	for _, l := range someGood(t) {
		if m, e := Get(sectorOf(l)); e != api.OK || !same(l, m) {
			t.Fatalf("Get of the sector of %v is %v, %v", l, m, e)
		}
	}
}

// refused asks for a sector that must be refused.
func refused(t *testing.T, s string, want api.Errno) {
	t.Helper()
	if l, e := Get(s); e != want || !none(l) {
		t.Errorf("Get(%q) is %v, %v, want %v", s, l, e, want)
	}
}

func TestGetOfOtherLengthsP12_2(t *testing.T) {
	s := sectorOf(mixed(t, 32, 64, 1))
	for n := range 64 {
		refused(t, s[:n], api.ErrForm)
		refused(t, s[64-n:], api.ErrForm)
	}
	refused(t, s+"\x00", api.ErrForm)
	refused(t, s+s, api.ErrForm)
	refused(t, "\x00"+s, api.ErrForm)
	refused(t, strings.Repeat(s, 1000), api.ErrForm)
	// The sum is another one too, but that is named later.
	refused(t, "TRUN"+strings.Repeat("\x00", 59), api.ErrForm)
	refused(t, "TRUN"+strings.Repeat("\x00", 61), api.ErrForm)
}

func TestGetOfOtherBeginningsP12_2(t *testing.T) {
	s := sectorOf(mixed(t, 5, 9, 1))
	for _, begins := range []string{"XRUN", "TXUN", "TRXN", "TRUX", "trun", "NURT", "\x00\x00\x00\x00"} {
		refused(t, begins+s[4:], api.ErrForm)           // the sum is another one too, but that is named later
		refused(t, summed(begins+s[4:46]), api.ErrForm) // the sum is right
	}
	refused(t, strings.Repeat("\x00", 64), api.ErrForm)
	refused(t, strings.Repeat("\xff", 64), api.ErrForm)
}

// TestGetOfAChangedBitP12_2: a sector of which one bit is another one is refused, by where that stands.
func TestGetOfAChangedBitP12_2(t *testing.T) {
	for _, l := range []Label{fresh(t, 4, 1), mixed(t, 5, 9, 1), mixed(t, 32, 64, 2)} {
		s := []byte(sectorOf(l))
		for at := range s {
			for bit := range 8 {
				s[at] ^= 1 << bit
				if at < 4 || at >= 50 {
					refused(t, string(s), api.ErrForm)
				} else {
					refused(t, string(s), api.ErrSum)
				}
				s[at] ^= 1 << bit
			}
		}
	}
}

func TestGetNamesTheSumFirstP12_2(t *testing.T) {
	for _, l := range []Label{fresh(t, 4, 1), mixed(t, 32, 64, 2)} {
		s := sectorOf(l)
		refused(t, s[:49]+string([]byte{^s[49]})+s[50:63]+"x", api.ErrSum)
		refused(t, s[:12]+"\x03"+s[13:], api.ErrSum)
		refused(t, s[:12]+"\xff"+s[13:], api.ErrSum)
		refused(t, s[:13]+"\x00"+s[14:], api.ErrSum)
		refused(t, s[:46]+string([]byte{s[49], s[48], s[47], s[46]})+s[50:], api.ErrSum)
		refused(t, s[:46]+strings.Repeat("\x00", 18), api.ErrSum)
	}
	refused(t, "TRUN"+strings.Repeat("\x00", 60), api.ErrSum)
}

func TestGetOfNoGoodLabelP12_2(t *testing.T) {
	head := "TRUN\x00\x00\x00\x00\x00\x00\x00\x01"
	for _, s := range []string{
		head,
		head + "\x03\x09",
		head + "\x21\x09",
		head + "\xff\x09",
		head + "\x05\x00",
		head + "\x05\x41",
		head + "\x05\xff",
		head + "\x05\x09\x01", // in sync, with a mark
		head + "\x05\x09\x00\x00\x00\x00\x3f",
		head + "\x05\x09\x41", // failed, with a mark
		head + "\x05\x09\x89", // rebuilding, and the mark is no stripe
		head + "\x05\x09\xbf",
		head + "\x05\x09\xc0", // no state
		head + "\x05\x09\xff",
		head + "\x05\x09\x00\x00\x00\x00\xc0",
		head + "\x05\x09\x00\x00\x00\x00\x00\x01", // of a member that isn't there
		head + "\x05\x09\x00\x00\x00\x00\x00\x40",
		head + "\x05\x09" + strings.Repeat("\x00", 31) + "\x01",
		"TRUN\x00\x00\x00\x00\x00\x00\x00\x00\x05\x09", // epochs that may not be
		"TRUN\x00\x20\x00\x00\x00\x00\x00\x01\x05\x09",
		"TRUN\x01\x00\x00\x00\x00\x00\x00\x01\x05\x09",
		"TRUN\x80\x00\x00\x00\x00\x00\x00\x00\x05\x09",
		"TRUN\x80\x00\x00\x00\x00\x00\x00\x01\x05\x09",
		"TRUN\xff\xff\xff\xff\xff\xff\xff\xff\x05\x09",
	} {
		refused(t, summed(s), api.ErrForm)
	}
	s := sectorOf(fresh(t, 4, 1))
	for at := 50; at < 64; at++ {
		refused(t, s[:at]+"\x01"+s[at+1:], api.ErrForm)
	}
}

// readBack is a label by the chapter's words, of a sector whose beginning and sum are right: the one good label of which that is the sector.
func readBack(s string) (Label, api.Errno) {
	l := Label{Geometry: geom.Geometry{Members: int(s[12]), Stripes: int(s[13])}}
	for _, c := range []byte(s[4:12]) {
		l.Epoch = l.Epoch*256 + int64(c)
	}
	for _, c := range []byte(s[14:min(46, 14+l.Members)]) {
		l.States, l.Marks = append(l.States, State(c>>6)), append(l.Marks, int(c&63))
	}
	if !mayBe(l) || sectorOf(l) != s {
		return Label{}, api.ErrForm
	}
	return l, api.OK
}

// TestGetOfEachByteP12_2: each byte that the sum is of is, in turn, each other one.
func TestGetOfEachByteP12_2(t *testing.T) {
	for _, l := range []Label{fresh(t, 4, 1), mixed(t, 5, 9, 1), mixed(t, 31, 63, 2), mixed(t, 32, 64, 3)} {
		s := sectorOf(l)
		told := 0
		for at := 4; at < 46; at++ {
			for c := range 256 {
				x := summed(s[:at] + string([]byte{byte(c)}) + s[at+1:46])
				want, e := readBack(x)
				got, f := Get(x)
				if e != f || !same(want, got) {
					t.Fatalf("Get(%q) is %v, %v, want %v, %v", x, got, f, want, e)
				}
				if e == api.OK {
					told++
				}
			}
		}
		if told < 100 {
			t.Errorf("only %d of the sectors were those of labels", told)
		}
	}
}

func TestWholeP12_3(t *testing.T) {
	l := fresh(t, 6, 9)
	l.States = []State{InSync, Failed, Rebuilding, Rebuilding, Rebuilding, InSync}
	l.Marks = []int{0, 0, 0, 4, 8, 0}
	below := []int{9, 0, 0, 4, 8, 9} // each member is whole in the stripes below that
	for _, member := range ints {
		for _, stripe := range ints {
			want := member >= 0 && member < 6 && stripe >= 0 && stripe < 9 && stripe < below[member]
			if got := l.Whole(member, stripe); got != want {
				t.Errorf("Whole(%d, %d) is %t", member, stripe, got)
			}
		}
	}
}

func TestWholeOfMixedP12_3(t *testing.T) {
	for _, size := range [][2]int{{4, 1}, {4, 64}, {7, 3}, {32, 1}, {32, 64}} {
		for seed := range 6 {
			l := mixed(t, size[0], size[1], seed)
			for member := -2; member < size[0]+2; member++ {
				for stripe := -2; stripe < size[1]+2; stripe++ {
					want := false
					if member >= 0 && member < size[0] && stripe >= 0 && stripe < size[1] {
						want = l.States[member] == 0 || l.States[member] == 2 && stripe < l.Marks[member]
					}
					if got := l.Whole(member, stripe); got != want {
						t.Fatalf("%v: Whole(%d, %d) is %t", l, member, stripe, got)
					}
				}
			}
		}
	}
}

func TestMissingP12_3(t *testing.T) {
	l := fresh(t, 5, 9)
	if n := l.Missing(); n != 0 {
		t.Errorf("of a new one %d are missing", n)
	}
	l.States[1] = Failed
	if n := l.Missing(); n != 1 {
		t.Errorf("%d are missing, want 1", n)
	}
	l.States[4], l.Marks[4] = Rebuilding, 8
	if n := l.Missing(); n != 2 {
		t.Errorf("%d are missing, want 2", n)
	}
	for _, l := range someGood(t) {
		want := l.Members
		for _, state := range l.States {
			if state == 0 {
				want--
			}
		}
		if n := l.Missing(); n != want {
			t.Fatalf("%v: %d are missing, want %d", l, n, want)
		}
	}
}

func TestWholeAndMissingOfNoGoodLabelP12_3(t *testing.T) {
	for _, l := range someBad(t) {
		if n := l.Missing(); n != 0 {
			t.Errorf("%v: %d are missing", l, n)
		}
		for _, member := range ints {
			for _, stripe := range ints {
				if l.Whole(member, stripe) {
					t.Fatalf("%v: Whole(%d, %d)", l, member, stripe)
				}
			}
		}
	}
}

// ofEpoch is the sector of a label of that epoch, and of so many stripes, by which it is known.
func ofEpoch(t *testing.T, epoch int64, stripes int) string {
	t.Helper()
	l := fresh(t, 4, stripes)
	l.Epoch = epoch
	return sectorOf(l)
}

func TestNewestP12_3(t *testing.T) {
	one, two, last := ofEpoch(t, 1, 1), ofEpoch(t, 2, 2), ofEpoch(t, 1<<53, 3)
	twoToo, lastToo := ofEpoch(t, 2, 4), ofEpoch(t, 1<<53, 5)
	broken := last[:20] + "x" + last[21:]
	behind := last[:63] + "x"
	beyond := summed("TRUN\x00\x20\x00\x00\x00\x00\x00\x01\x04\x09")
	for i, x := range []struct {
		sectors []string
		stripes int // of the one that is told; 0 of none
	}{
		{nil, 0},
		{[]string{}, 0},
		{[]string{""}, 0},
		{[]string{"", broken, behind, beyond, strings.Repeat("\x00", 64), one[1:]}, 0},
		{[]string{one}, 1},
		{[]string{one, two}, 2},
		{[]string{two, one}, 2},
		{[]string{one, two, one}, 2},
		{[]string{two, twoToo}, 2},
		{[]string{twoToo, two}, 4},
		{[]string{one, twoToo, two, twoToo}, 4},
		{[]string{last, two, lastToo}, 3},
		{[]string{two, lastToo, one, last}, 5},
		{[]string{"", one, "", twoToo, two, ""}, 4},
		{[]string{broken, one, behind, beyond}, 1},
		{[]string{one, broken, behind, beyond, two}, 2},
	} {
		l, ok := Newest(x.sectors)
		if ok != (x.stripes != 0) || l.Stripes != x.stripes || !ok && !none(l) {
			t.Errorf("%d: the newest is %v, %t, want that of %d stripes", i, l, ok, x.stripes)
		}
	}
}

func TestNewestIsWhatGetTellsP12_3(t *testing.T) {
	var sectors []string
	for seed := range 30 {
		l := mixed(t, 4+seed%29, 1+seed*2, seed)
		l.Epoch = int64(1 + seed*17%30)
		sectors = append(sectors, sectorOf(l))
	}
	for range sectors {
		l, ok := Newest(sectors)
		at := slices.IndexFunc(sectors, func(s string) bool { m, _ := Get(s); return m.Epoch == 30 })
		if want, _ := Get(sectors[at]); !ok || !same(l, want) {
			t.Fatalf("the newest is %v, %t, want %v", l, ok, want)
		}
		sectors = append(sectors[1:], sectors[0])
	}
}

func TestCopyP12_3(t *testing.T) {
	for _, l := range slices.Concat(someGood(t), someBad(t)) {
		c := l.Copy()
		if !same(l, c) {
			t.Fatalf("the copy of %v is %v", l, c)
		}
		before := Label{l.Geometry, l.Epoch, slices.Concat(l.States), slices.Concat(l.Marks)}
		for i := range c.States {
			c.States[i]++
		}
		for i := range c.Marks {
			c.Marks[i]++
		}
		if !same(l, before) {
			t.Fatalf("%v has been changed by its copy", before)
		}
		again := l.Copy()
		for i := range l.States {
			l.States[i]--
		}
		for i := range l.Marks {
			l.Marks[i]--
		}
		if !same(again, before) {
			t.Fatalf("a copy of %v has been changed by it", before)
		}
	}
}

// TestWhatLiesBehindALengthIsLeft: it is neither written nor handed out.
func TestWhatLiesBehindALengthIsLeft(t *testing.T) {
	states := []State{InSync, Failed, Rebuilding, InSync, 77, 78}
	marks := []int{0, 0, 5, 0, 79, 80}
	l := Label{geom.Geometry{Members: 4, Stripes: 9}, 3, states[:4], marks[:4]}
	s, e := Put(l)
	if e != api.OK || s != summed("TRUN\x00\x00\x00\x00\x00\x00\x00\x03\x04\x09\x00\x40\x85\x00") || l.Missing() != 2 || !l.Whole(2, 4) || l.Whole(4, 0) {
		t.Errorf("Put is % x, %v", s, e)
	}
	for _, c := range []Label{l.Copy(), {States: states[:0], Marks: marks[:0]}} {
		c = c.Copy()
		c.States, c.Marks = append(c.States, 1), append(c.Marks, 1)
		if slices.Contains(c.States[:cap(c.States)], 77) || slices.Contains(c.Marks[:cap(c.Marks)], 79) {
			t.Errorf("a copy has %v, %v behind it", c.States[:cap(c.States)], c.Marks[:cap(c.Marks)])
		}
	}
	if !slices.Equal(states, []State{InSync, Failed, Rebuilding, InSync, 77, 78}) || !slices.Equal(marks, []int{0, 0, 5, 0, 79, 80}) {
		t.Errorf("the lists became %v, %v", states, marks)
	}
}

func TestWhatIsHandedInIsLeft(t *testing.T) {
	for _, l := range slices.Concat([]Label{mixed(t, 32, 64, 1)}, someBad(t)) {
		before := l.Copy()
		l.Good()
		Put(l)
		l.Missing()
		l.Whole(1, 1)
		l.Copy()
		if !same(l, before) {
			t.Errorf("%v became %v", before, l)
		}
	}
	sectors := []string{ofEpoch(t, 1, 1), "", ofEpoch(t, 2, 2), "x"}
	before := slices.Clone(sectors)
	Newest(sectors)
	if !slices.Equal(sectors, before) {
		t.Error("the sectors were changed")
	}
}

// spoil gives a label's lists other elements, up to the end of their memory.
func spoil(l Label) {
	for i := range l.States[:cap(l.States)] {
		l.States[:cap(l.States)][i] = 99
	}
	for i := range l.Marks[:cap(l.Marks)] {
		l.Marks[:cap(l.Marks)][i] = 99
	}
}

func TestAnswersApartP2(t *testing.T) {
	s := sectorOf(mixed(t, 5, 9, 1))
	for name, make := range map[string]func() Label{
		"New":    func() Label { l, _ := New(geom.Geometry{Members: 5, Stripes: 9}); return l },
		"Get":    func() Label { l, _ := Get(s); return l },
		"Newest": func() Label { l, _ := Newest([]string{s, s}); return l },
	} {
		a, b := make(), make()
		before := b.Copy()
		spoil(a)
		if c := make(); !same(b, before) || !same(c, before) {
			t.Errorf("%s: another answer became %v, the next one %v", name, b, c)
		}
	}
}

func TestAtTheSameTime(t *testing.T) {
	l := mixed(t, 32, 64, 1)
	s := sectorOf(l)
	var workers sync.WaitGroup
	for range 8 {
		workers.Go(func() {
			for range 100 {
				m, e := Get(s)
				n, ok := Newest([]string{s})
				if put, f := Put(l.Copy()); e != api.OK || f != api.OK || !ok || put != s || !reflect.DeepEqual(m, n) || !same(l, m) {
					t.Error("calls at the same time answer something else")
				}
			}
		})
	}
	workers.Wait()
}

func FuzzGetP12_2(f *testing.F) {
	f.Add(summed("TRUN\x00\x00\x00\x00\x00\x00\x00\x01\x05\x09\x00\x40\x88"))
	f.Add("TRUN\x00\x00\x00\x00\x00\x00\x00\x01\xff\xff")
	f.Fuzz(func(t *testing.T, s string) {
		if l, e := Get(s); e == api.OK && (!mayBe(l) || sectorOf(l) != s) || e != api.OK && !none(l) {
			t.Errorf("Get(%q) is %v, %v", s, l, e)
		}
		if len(s) < 14 || len(s) > 46 || s[:4] != "TRUN" {
			return
		}
		s = summed(s)
		want, e := readBack(s)
		if l, f := Get(s); e != f || !same(l, want) {
			t.Errorf("Get(%q) is %v, %v, want %v, %v", s, l, f, want, e)
		}
	})
}
