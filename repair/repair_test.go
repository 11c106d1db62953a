package repair

import (
	"math"
	"slices"
	"strings"
	"sync"
	"testing"

	"trunnion/api"
)

// fewest and widest are how many data columns a row may have, by the chapter.
const (
	fewest = 2
	widest = 30
)

// doubled multiplies by 2 as layer 1's chapter words it: the polynomial times x, modulo 11d.
func doubled(b byte) byte {
	whole := int(b) << 1
	if whole > 0xff {
		whole ^= 0x11d
	}
	return byte(whole)
}

// sample is a buffer of n bytes, another one for each seed.
func sample(n int, seed uint64) string {
	b := make([]byte, n)
	x := seed*0x9e3779b97f4a7c15 + 0x243f6a8885a308d3
	for i := range b {
		x = x*6364136223846793005 + 1442695040888963407
		b[i] = byte(x >> 56)
	}
	return string(b)
}

// samples are as many of n bytes.
func samples(count, n int, seed uint64) []string {
	var l []string
	for i := range count {
		l = append(l, sample(n, seed*1000+uint64(i)))
	}
	return l
}

// sumP is P of data columns, byte by byte, by layer 4's words.
func sumP(data []string) string {
	p := make([]byte, len(data[0]))
	for _, s := range data {
		for at := range p {
			p[at] ^= s[at]
		}
	}
	return string(p)
}

// sumQ is Q of data columns: each times its weight.
func sumQ(data []string) string {
	q := make([]byte, len(data[0]))
	for i, s := range data {
		for at := range q {
			b := s[at]
			for range i {
				b = doubled(b)
			}
			q[at] ^= b
		}
	}
	return string(q)
}

// whole are all columns of a row of data columns.
func whole(data []string) []string {
	return append(slices.Clone(data), sumP(data), sumQ(data))
}

// losses are no column, every one, and every two of a row, the latter in both orders.
func losses(columns int) [][]int {
	l := [][]int{nil}
	for i := range columns {
		for j := range columns {
			if i == j {
				l = append(l, []int{i})
			} else {
				l = append(l, []int{i, j})
			}
		}
	}
	return l
}

// spoiled is a row with something else in the place of each lost column, of whatever length.
func spoiled(columns []string, lost []int, noise string) []string {
	l := slices.Clone(columns)
	for _, i := range lost {
		l[i] = noise
	}
	return l
}

// kind is that of lost columns, none of them twice, by counting.
func kind(data int, lost []int) Kind {
	inData, p, q := 0, 0, 0
	for _, i := range lost {
		switch i {
		case data:
			p++
		case data + 1:
			q++
		default:
			inData++
		}
	}
	return map[[3]int]Kind{
		{0, 0, 0}: 0, {1, 0, 0}: 1, {0, 1, 0}: 2, {0, 0, 1}: 3,
		{1, 1, 0}: 4, {1, 0, 1}: 5, {0, 1, 1}: 6, {2, 0, 0}: 7,
	}[[3]int{inData, p, q}]
}

func TestKindsP5_1(t *testing.T) {
	for i, k := range []Kind{Whole, OneData, OnlyP, OnlyQ, DataP, DataQ, Parities, TwoData, Kinds} {
		if int(k) != i {
			t.Errorf("the kind %d is the number %d", i, int(k))
		}
	}
}

func TestNameP5_1(t *testing.T) {
	for i, want := range []string{"whole", "data", "p", "q", "data+p", "data+q", "p+q", "data+data"} {
		if got := Kind(i).Name(); got != want {
			t.Errorf("the name of %d is %q, want %q", i, got, want)
		}
	}
	for _, k := range []Kind{math.MinInt, math.MinInt + 1, -256, -8, -2, -1, Kinds, Kinds + 1, 16, 255, 256, 1 << 32, math.MaxInt - 1, math.MaxInt} {
		if got := k.Name(); got != "" {
			t.Errorf("the name of %d is %q, which is no kind", int(k), got)
		}
	}
}

func TestSortP5_1(t *testing.T) {
	for _, x := range []struct {
		data int
		lost []int
		want Kind
	}{
		{2, nil, Whole}, {2, []int{}, Whole}, {30, nil, Whole},
		{2, []int{0}, OneData}, {2, []int{1}, OneData}, {2, []int{2}, OnlyP}, {2, []int{3}, OnlyQ},
		{3, []int{2}, OneData}, {30, []int{29}, OneData}, {30, []int{30}, OnlyP}, {30, []int{31}, OnlyQ},
		{3, []int{0, 3}, DataP}, {3, []int{3, 0}, DataP}, {30, []int{30, 29}, DataP},
		{3, []int{0, 4}, DataQ}, {3, []int{4, 2}, DataQ}, {30, []int{0, 31}, DataQ},
		{3, []int{3, 4}, Parities}, {3, []int{4, 3}, Parities}, {30, []int{31, 30}, Parities},
		{3, []int{0, 2}, TwoData}, {3, []int{2, 0}, TwoData}, {30, []int{29, 28}, TwoData},
	} {
		if got, e := Sort(x.data, x.lost); got != x.want || e != api.OK {
			t.Errorf("Sort(%d, %v) is %q, %v, want %q", x.data, x.lost, got.Name(), e, x.want.Name())
		}
	}
}

func TestSortEveryLossP5_1(t *testing.T) {
	for data := fewest; data <= widest; data++ {
		for _, lost := range losses(data + 2) {
			if got, e := Sort(data, lost); got != kind(data, lost) || e != api.OK {
				t.Errorf("Sort(%d, %v) is %q, %v", data, lost, got.Name(), e)
			}
		}
	}
}

// A number that is there twice, or more often, counts once.
func TestSortNumbersTwiceP5_1(t *testing.T) {
	for _, x := range []struct {
		lost []int
		want Kind
	}{
		{[]int{1, 1}, OneData}, {[]int{1, 1, 1}, OneData}, {[]int{3, 3, 3, 3}, OnlyP}, {[]int{4, 4, 4}, OnlyQ},
		{[]int{0, 1, 0}, TwoData}, {[]int{0, 1, 0, 1}, TwoData}, {[]int{1, 1, 0, 0}, TwoData},
		{[]int{3, 2, 3}, DataP}, {[]int{4, 2, 2, 4, 2}, DataQ}, {[]int{4, 3, 4, 3}, Parities},
		{slices.Repeat([]int{2}, 10000), OneData}, {slices.Repeat([]int{4, 0}, 10000), DataQ},
	} {
		if got, e := Sort(3, x.lost); got != x.want || e != api.OK {
			t.Errorf("Sort of %d numbers, %v at first, is %q, %v, want %q", len(x.lost), x.lost[0], got.Name(), e, x.want.Name())
		}
	}
	for _, lost := range [][]int{{0, 0, 1, 1, 2}, {4, 3, 4, 3, 0}, append(slices.Repeat([]int{1, 2}, 5000), 4)} {
		if got, e := Sort(3, lost); got != 0 || e != api.ErrFailed {
			t.Errorf("Sort of three columns, some of them twice, is %q, %v", got.Name(), e)
		}
	}
}

func TestErrorsOfSortP5_1(t *testing.T) {
	for _, data := range []int{math.MinInt, math.MinInt + 1, -2, -1, 0, 1, 31, 32, 33, 256, math.MaxInt - 2, math.MaxInt - 1, math.MaxInt} {
		for _, lost := range [][]int{nil, {0}, {0, 1}, {0, 1, 2}, {-1}, {data}, {math.MaxInt, math.MinInt}} {
			if got, e := Sort(data, lost); got != 0 || e != api.ErrRange {
				t.Errorf("Sort(%d, %v) is %q, %v, want %v", data, lost, got.Name(), e, api.ErrRange)
			}
		}
	}
	for _, wrong := range []int{math.MinInt, math.MinInt + 1, -256, -1, 5, 6, 31, 32, 256, math.MaxInt - 1, math.MaxInt} {
		// Wherever it stands, and ahead of too many that are lost.
		for _, lost := range [][]int{{wrong}, {wrong, wrong}, {0, wrong}, {wrong, 0}, {0, 1, wrong}, {wrong, 0, 1, 2}, {0, 1, 2, 3, wrong}} {
			if got, e := Sort(3, lost); got != 0 || e != api.ErrRange {
				t.Errorf("Sort(3, %v) is %q, %v, want %v", lost, got.Name(), e, api.ErrRange)
			}
		}
	}
	for data := fewest; data <= widest; data++ {
		for _, wrong := range []int{-1, data + 2} {
			if got, e := Sort(data, []int{wrong}); got != 0 || e != api.ErrRange {
				t.Errorf("Sort(%d, %d) is %q, %v", data, wrong, got.Name(), e)
			}
		}
	}
}

func TestSortTooManyLostP5_1(t *testing.T) {
	for data := fewest; data <= widest; data++ {
		for _, lost := range [][]int{{0, 1, data}, {data + 1, data, 0}, {1, data + 1, 0}, {0, 1, data, data + 1}} {
			if got, e := Sort(data, lost); got != 0 || e != api.ErrFailed {
				t.Errorf("Sort(%d, %v) is %q, %v, want %v", data, lost, got.Name(), e, api.ErrFailed)
			}
		}
	}
	all := []int{}
	for i := range api.MaxMembers {
		all = append(all, i)
	}
	if got, e := Sort(widest, all); got != 0 || e != api.ErrFailed {
		t.Errorf("Sort of all columns is %q, %v", got.Name(), e)
	}
}

func TestFixExampleP5_2(t *testing.T) {
	all := []string{"\x01", "\x01", "\x01", "\x01", "\x07"}
	got, e := New().Fix([]string{"", "\x01", "", "\x01", "\x07"}, []int{0, 2})
	if !slices.Equal(got, all) || e != api.OK {
		t.Errorf("Fix is %x, %v, want %x", got, e, all)
	}
}

// Every one and every two columns of rows of every width.
func TestFixEveryLossP5_2(t *testing.T) {
	f := New()
	for data := fewest; data <= widest; data++ {
		all := whole(samples(data, 11, uint64(data)))
		for i, lost := range losses(data + 2) {
			handed := spoiled(all, lost, []string{"", "noise", sample(11, 7)}[i%3])
			if got, e := f.Fix(handed, lost); !slices.Equal(got, all) || e != api.OK {
				t.Fatalf("Fix of %d data columns without %v is %x, %v, want %x", data, lost, got, e, all)
			}
		}
	}
}

// Every element in each place of each lost column, at the edges of the widest row.
func TestFixEveryElementP5_2(t *testing.T) {
	elements := make([]byte, 256)
	for b := range elements {
		elements[b] = byte(b)
	}
	data := samples(widest, 256, 3)
	data[0], data[15], data[29] = string(elements), string(elements), string(elements)
	all := whole(data)
	for _, lost := range [][]int{{0}, {15}, {29}, {0, 15}, {0, 29}, {15, 29}, {28, 29}, {0, 1}, {29, 30}, {29, 31}, {0, 30}, {0, 31}, {30, 31}} {
		if got, e := New().Fix(spoiled(all, lost, ""), lost); !slices.Equal(got, all) || e != api.OK {
			t.Errorf("Fix without %v isn't the row as it was: %v", lost, e)
		}
	}
}

func TestFixEveryLengthP5_2(t *testing.T) {
	for _, n := range []int{0, 1, 2, 7, 8, 9, 15, 16, 17, 63, api.Block, 65, api.MaxBuffer - 1, api.MaxBuffer} {
		all := whole(samples(4, n, uint64(n)))
		for _, lost := range [][]int{nil, {1}, {4}, {5}, {1, 4}, {1, 5}, {4, 5}, {1, 3}} {
			if got, e := New().Fix(spoiled(all, lost, "else"), lost); !slices.Equal(got, all) || e != api.OK {
				t.Errorf("Fix of %d bytes without %v isn't the row as it was: %v", n, lost, e)
			}
		}
	}
}

// Numbers that are there twice count once, in whatever order.
func TestFixNumbersTwiceP5_2(t *testing.T) {
	all := whole(samples(3, 20, 1))
	for _, lost := range [][]int{{0, 0}, {2, 0, 2, 0}, {4, 4, 1, 1, 4}, {3, 1, 3}, {4, 3, 3, 4}, slices.Repeat([]int{1, 0}, 5000)} {
		if got, e := New().Fix(spoiled(all, lost, "?"), lost); !slices.Equal(got, all) || e != api.OK {
			t.Errorf("Fix without %d numbers, some twice, is %x, %v", len(lost), got, e)
		}
	}
}

// What stands in the place of lost columns counts for nothing, be it no buffer at all.
func TestFixWhateverIsLostP5_2(t *testing.T) {
	all := whole(samples(3, 9, 5))
	for _, noise := range []string{"", "a", sample(8, 1), sample(9, 1), sample(10, 1), strings.Repeat("\x00", 9), sample(api.MaxBuffer, 1), sample(api.MaxBuffer+1, 1)} {
		for _, lost := range losses(5) {
			if got, e := New().Fix(spoiled(all, lost, noise), lost); !slices.Equal(got, all) || e != api.OK {
				t.Errorf("Fix without %v, of which there are %d bytes, is %x, %v", lost, len(noise), got, e)
			}
		}
	}
}

// holdMisfit says what the chapter asks of a row whose parities may fit no more: of the columns that are told there is but one such row.
func holdMisfit(t *testing.T, columns []string, lost []int, got []string, e api.Errno) {
	t.Helper()
	data := len(columns) - 2
	if e != api.OK || len(got) != len(columns) {
		t.Fatalf("Fix without %v is %x, %v", lost, got, e)
	}
	for i := range columns {
		if !slices.Contains(lost, i) && got[i] != columns[i] {
			t.Errorf("without %v the column %d is %x, was %x", lost, i, got[i], columns[i])
		}
	}
	// With none or one lost, a parity that is there fits only where it brought a data column back: P.
	k := kind(data, lost)
	if k != Whole && k != OnlyQ && got[data] != sumP(got[:data]) {
		t.Errorf("without %v P doesn't fit: %x", lost, got)
	}
	if k != Whole && k != OneData && k != OnlyP && got[data+1] != sumQ(got[:data]) {
		t.Errorf("without %v Q doesn't fit: %x", lost, got)
	}
}

func TestFixParitiesThatFitNoMoreP5_2(t *testing.T) {
	f := New()
	for data := fewest; data <= widest; data++ {
		columns := samples(data+2, 10, uint64(data)+500) // of which the last two are no parities
		for _, lost := range losses(data + 2) {
			got, e := f.Fix(spoiled(columns, lost, "!"), lost)
			holdMisfit(t, columns, lost, got, e)
		}
	}
}

func TestFixParitiesThatFitNoMoreByHandP5_2(t *testing.T) {
	columns := []string{"\x01", "\x02", "\x07", "\x80"} // P would be 03, Q 05
	for _, x := range []struct {
		lost []int
		want []string
	}{
		{nil, columns},
		{[]int{0}, []string{"\x05", "\x02", "\x07", "\x80"}},
		{[]int{1}, []string{"\x01", "\x06", "\x07", "\x80"}},
		{[]int{2}, []string{"\x01", "\x02", "\x03", "\x80"}},
		{[]int{3}, []string{"\x01", "\x02", "\x07", "\x05"}},
		{[]int{0, 2}, []string{"\x84", "\x02", "\x86", "\x80"}},
		{[]int{0, 3}, []string{"\x05", "\x02", "\x07", "\x01"}},
		{[]int{2, 3}, []string{"\x01", "\x02", "\x03", "\x05"}},
	} {
		if got, e := New().Fix(columns, x.lost); !slices.Equal(got, x.want) || e != api.OK {
			t.Errorf("Fix without %v is %x, %v, want %x", x.lost, got, e, x.want)
		}
	}
}

func TestFixOfNilFixerP5_2(t *testing.T) {
	var f *Fixer
	long := sample(api.MaxBuffer+1, 1)
	for _, columns := range [][]string{nil, {"a"}, {"a", "b", "c", "d"}, {"a", "bc", "d", "e"}, {"a", long, "b", "c"}} {
		for _, lost := range [][]int{nil, {0}, {0, 1, 2}, {-1}, {math.MaxInt}} {
			if got, e := f.Fix(columns, lost); len(got) != 0 || e != api.ErrNil {
				t.Errorf("Fix of a nil fixer is %x, %v, want %v", got, e, api.ErrNil)
			}
		}
	}
}

// Sort's errors, ahead of what is wrong with the columns.
func TestFixSortsErrorsP5_2(t *testing.T) {
	long := sample(api.MaxBuffer+1, 1)
	for _, count := range []int{0, 1, 2, 3, 33, 34, 100} {
		for _, fill := range []string{"", "a", long} {
			for _, lost := range [][]int{nil, {0}, {0, 1, 2}, {-1}, {math.MinInt}} {
				if got, e := New().Fix(slices.Repeat([]string{fill}, count), lost); len(got) != 0 || e != api.ErrRange {
					t.Errorf("Fix of %d columns without %v is %d columns, %v", count, lost, len(got), e)
				}
			}
		}
	}
	for _, x := range []struct {
		lost []int
		want api.Errno
	}{
		{[]int{-1}, api.ErrRange}, {[]int{5}, api.ErrRange}, {[]int{math.MinInt}, api.ErrRange}, {[]int{math.MaxInt}, api.ErrRange},
		{[]int{0, 1, 2, 5}, api.ErrRange}, {[]int{-1, 0, 1, 2}, api.ErrRange},
		{[]int{0, 1, 2}, api.ErrFailed}, {[]int{4, 3, 0}, api.ErrFailed}, {[]int{0, 0, 1, 1, 4, 4}, api.ErrFailed}, {[]int{0, 1, 2, 3, 4}, api.ErrFailed},
	} {
		for _, columns := range [][]string{{"a", "b", "c", "d", "e"}, {"a", "bc", "", "d", "e"}, {long, "a", long, "b", "c"}} {
			if got, e := New().Fix(columns, x.lost); len(got) != 0 || e != x.want {
				t.Errorf("Fix without %v is %x, %v, want %v", x.lost, got, e, x.want)
			}
		}
	}
}

// Whichever of the columns that aren't lost is wrong, it is told; one that is too long, ahead of unlike lengths.
func TestFixNoBuffersOfOneLengthP5_2(t *testing.T) {
	long := sample(api.MaxBuffer+1, 1)
	for at := range 5 {
		for _, lost := range losses(5) {
			if slices.Contains(lost, at) {
				continue
			}
			for _, x := range []struct {
				wrong, other string
				want         api.Errno
			}{{"", "a", api.ErrForm}, {"ab", "a", api.ErrForm}, {"a", "", api.ErrForm}, {"12345678", "1234567", api.ErrForm}, {long, "a", api.ErrArg}, {long, "", api.ErrArg}, {long, long, api.ErrArg}} {
				columns := slices.Repeat([]string{x.other}, 5)
				columns[at] = x.wrong
				if got, e := New().Fix(columns, lost); len(got) != 0 || e != x.want {
					t.Errorf("Fix without %v, the column %d wrong, is %d columns, %v, want %v", lost, at, len(got), e, x.want)
				}
			}
		}
	}
	if got, e := New().Fix([]string{"a", "bc", "", long}, nil); len(got) != 0 || e != api.ErrArg {
		t.Errorf("Fix of columns that are unlike, and one too long, is %d columns, %v", len(got), e)
	}
	if got, e := New().Fix([]string{"a", "bc", "d", long}, []int{3}); len(got) != 0 || e != api.ErrForm {
		t.Errorf("Fix of columns that are unlike, and a lost one too long, is %d columns, %v", len(got), e)
	}
}

// What is handed in is left as it was, nothing behind its length is used, and what is answered is the caller's own.
func TestFixListsAreTheirOwnersP5_2(t *testing.T) {
	all := whole(samples(3, 9, 8))
	for _, lost := range losses(5) {
		memory := append(spoiled(all, lost, "?"), "behind")
		numbers := append(slices.Clone(lost), -1)
		memoryBefore, numbersBefore := slices.Clone(memory), slices.Clone(numbers)
		f := New()
		got, e := f.Fix(memory[:5], numbers[:len(lost)])
		if !slices.Equal(got, all) || e != api.OK {
			t.Fatalf("Fix without %v is %x, %v", lost, got, e)
		}
		got = append(got, "more")
		for i := range got {
			got[i] = "changed"
		}
		if !slices.Equal(memory, memoryBefore) || !slices.Equal(numbers, numbersBefore) {
			t.Errorf("without %v the lists are %q, %v behind the call", lost, memory, numbers)
		}
		if again, e := f.Fix(memory[:5], numbers[:len(lost)]); !slices.Equal(again, all) || e != api.OK {
			t.Errorf("Fix without %v is %x, %v the second time", lost, again, e)
		}
	}
	numbers := []int{4, 0, 4}
	if New().Fix(all, numbers); !slices.Equal(numbers, []int{4, 0, 4}) {
		t.Errorf("the lost numbers are %v behind the call", numbers)
	}
}

// counts are a fixer's of all kinds.
func counts(f *Fixer) []int64 {
	var l []int64
	for k := range Kinds {
		l = append(l, f.Done(k))
	}
	return l
}

func TestDoneP5_3(t *testing.T) {
	f := New()
	if got := counts(f); !slices.Equal(got, make([]int64, 8)) {
		t.Fatalf("a new fixer has done %v", got)
	}
	all := whole(samples(3, 9, 2))
	want := make([]int64, 8)
	for k, lost := range [][]int{nil, {1, 1}, {3}, {4}, {3, 0}, {2, 4, 2}, {4, 3}, {2, 0}} {
		for range k + 1 {
			if _, e := f.Fix(all, lost); e != api.OK {
				t.Fatalf("Fix without %v: %v", lost, e)
			}
			want[k]++
			if got := counts(f); !slices.Equal(got, want) {
				t.Fatalf("behind Fix without %v done is %v, want %v", lost, got, want)
			}
		}
	}
}

// Every loss is counted by its own kind, at every width; also of parities that fit no more.
func TestDoneEveryLossP5_3(t *testing.T) {
	for data := fewest; data <= widest; data++ {
		f, want := New(), make([]int64, 8)
		for _, lost := range losses(data + 2) {
			f.Fix(slices.Repeat([]string{"a"}, data+2), lost)
			want[kind(data, lost)]++
		}
		if got := counts(f); !slices.Equal(got, want) {
			t.Errorf("of %d data columns done is %v, want %v", data, got, want)
		}
	}
}

func TestDoneOfRefusedFixesP5_3(t *testing.T) {
	f, long := New(), sample(api.MaxBuffer+1, 1)
	f.Fix([]string{"a", "b", "c", "d"}, []int{0})
	before := counts(f)
	for _, x := range []struct {
		columns []string
		lost    []int
	}{
		{nil, nil}, {[]string{"a", "b", "c"}, []int{0}}, {make([]string, 33), nil},
		{[]string{"a", "b", "c", "d"}, []int{4}}, {[]string{"a", "b", "c", "d"}, []int{-1, 0}}, {[]string{"a", "b", "c", "d"}, []int{0, 1, 2}},
		{[]string{"a", "bc", "d", "e"}, nil}, {[]string{"a", "bc", "d", "e"}, []int{0}}, {[]string{"a", "bc", "d", "e"}, []int{2}},
		{[]string{"a", "bc", "d", "e"}, []int{3}}, {[]string{"a", "bc", "d", "e"}, []int{0, 2}}, {[]string{"a", "bc", "d", "e"}, []int{2, 3}},
		{[]string{"a", "b", "c", "de"}, []int{0, 1}}, {[]string{long, "b", "c", "d"}, []int{1}}, {[]string{long, "b", "c", "d"}, nil},
	} {
		if _, e := f.Fix(x.columns, x.lost); e == api.OK {
			t.Errorf("Fix of %d columns without %v isn't refused", len(x.columns), x.lost)
		}
		if got := counts(f); !slices.Equal(got, before) {
			t.Errorf("behind a Fix that was refused, of %d columns without %v, done is %v, was %v", len(x.columns), x.lost, got, before)
		}
	}
}

func TestDoneOfNoKindP5_3(t *testing.T) {
	f := New()
	for _, lost := range losses(4) {
		f.Fix([]string{"a", "b", "c", "d"}, lost)
	}
	var none *Fixer
	for _, k := range []Kind{math.MinInt, -256, -8, -1, Kinds, Kinds + 1, 16, 256, 1 << 32, math.MaxInt} {
		if got := f.Done(k); got != 0 {
			t.Errorf("Done(%d), which is no kind, is %d", int(k), got)
		}
		if got := none.Done(k); got != 0 {
			t.Errorf("Done(%d) of a nil fixer is %d", int(k), got)
		}
	}
	for k := range Kinds {
		if got := none.Done(k); got != 0 {
			t.Errorf("Done(%s) of a nil fixer is %d", k.Name(), got)
		}
	}
}

func TestFixesAtTheSameTimeP5_3(t *testing.T) {
	const workers, times = 16, 30
	f, all := New(), whole(samples(4, 24, 6))
	lost := [][]int{nil, {2}, {4}, {5}, {1, 4}, {5, 0}, {4, 5}, {3, 1}}
	start := make(chan struct{})
	var group sync.WaitGroup
	for i := range workers {
		group.Go(func() {
			<-start
			for n := range times * len(lost) {
				gone := lost[(i+n)%len(lost)]
				if got, e := f.Fix(spoiled(all, gone, "?"), gone); !slices.Equal(got, all) || e != api.OK {
					t.Errorf("Fix without %v at the same time as others is %x, %v", gone, got, e)
				}
				f.Fix(all, []int{0, 1, 2}) // refused
			}
		})
	}
	close(start)
	group.Wait()
	if got, want := counts(f), slices.Repeat([]int64{workers * times}, len(lost)); !slices.Equal(got, want) {
		t.Errorf("done is %v behind Fixes at the same time, want %v", got, want)
	}
}

func TestFixersApartP2(t *testing.T) {
	f, g := New(), New()
	f.Fix([]string{"a", "b", "c", "d"}, []int{0, 1})
	if f.Done(TwoData) != 1 || g.Done(TwoData) != 0 {
		t.Errorf("done is %d and %d", f.Done(TwoData), g.Done(TwoData))
	}
	all := whole(samples(2, 9, 4))
	if got, e := g.Fix(spoiled(all, []int{0, 1}, ""), []int{0, 1}); !slices.Equal(got, all) || e != api.OK || f.Done(TwoData) != 1 || g.Done(TwoData) != 1 {
		t.Errorf("Fix of the other is %x, %v; done is %d and %d", got, e, f.Done(TwoData), g.Done(TwoData))
	}
}
