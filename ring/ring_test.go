package ring

import (
	"fmt"
	"math"
	"slices"
	"sync"
	"testing"

	"trunnion/api"
)

// ints are numbers of all sizes: those about the edges of heads, batches and halves, and the least and greatest ones. Of some of them four times the number, and 16, wraps round to a small one.
var ints = []int{math.MinInt, math.MinInt + 1, math.MinInt / 2, math.MinInt / 4, -1 << 40, -1 << 32, -97, -96, -49, -48, -44, -5, -4, -3, -2, -1, 0, 1, 2, 3, 4, 5, 11, 12, 13, 14, 27, 28, 29, 43, 44, 45, 46, 47, 48, 49, 50, 51, 52, 53, 64, 95, 96, 97, 98, 99, 100, 255, 256, 1 << 32, 1<<32 + 1, 1 << 40, math.MaxInt/4 - 3, math.MaxInt / 4, math.MaxInt/4 + 1, math.MaxInt / 2, math.MaxInt/2 + 1, math.MaxInt - 1, math.MaxInt}

// seqs are numbers of batches, those at the edges among them, and numbers that no batch has.
var seqs = []int64{math.MinInt64, math.MinInt64 + 1, -1 << 53, -1<<53 - 1, -1 << 32, -3, -2, -1, 0, 1, 2, 3, 4, 5, 47, 48, 95, 96, 97, 1<<31 - 1, 1 << 31, 1<<31 + 1, 1 << 32, 1<<32 + 1, 1<<33 + 2, 1<<53 - 2, 1<<53 - 1, 1 << 53, 1<<53 + 1, 1<<53 + 2, 1 << 54, math.MaxInt64 - 1, math.MaxInt64}

// headOf is the chapter's sentence, sector by sector, with the limits as DOC.md writes them.
func headOf(writes int) int {
	if writes < 0 || writes > 96 {
		return 0
	}
	bytes := 16
	for i := 0; i < writes; i++ {
		bytes += 4
	}
	sectors := 0
	for bytes > 0 {
		bytes -= 64
		sectors++
	}
	return sectors
}

// needOf is the head's sectors, and one of each write.
func needOf(writes int) int {
	sectors := headOf(writes)
	for i := 0; i < writes && i < 97 && sectors > 0; i++ {
		sectors++
	}
	if writes > 96 {
		return 0
	}
	return sectors
}

// mayBe: is it a batch's number?
func mayBe(seq int64) bool {
	return seq > 0 && seq < 9007199254740993
}

// placesOf is the chapter's sentence, with the sectors of each half written out.
func placesOf(seq int64, sectors int) ([]int, api.Errno) {
	if !mayBe(seq) {
		return nil, api.ErrArg
	}
	if sectors < 0 || sectors > 48 {
		return nil, api.ErrRange
	}
	var even, odd []int
	for at := 4; at < 52; at++ {
		even = append(even, at)
	}
	for at := 52; at < 100; at++ {
		odd = append(odd, at)
	}
	if seq&1 == 0 {
		return even[:sectors], api.OK
	}
	return odd[:sectors], api.OK
}

// packOf tries each number of sizes, from the greatest one down.
func packOf(sizes []int) int {
	for n := len(sizes); n > 0; n-- {
		sum, ok := 0.0, true
		for _, size := range sizes[:n] {
			ok = ok && size >= 0 && size <= 44
			sum += float64(size)
		}
		if ok && sum <= 44 {
			return n
		}
	}
	return 0
}

func TestHeadP13_1(t *testing.T) {
	for writes := -200; writes <= 300; writes++ {
		if got := Head(writes); got != headOf(writes) {
			t.Errorf("Head(%d) is %d, not %d", writes, got, headOf(writes))
		}
	}
	for _, writes := range ints {
		if got := Head(writes); got != headOf(writes) {
			t.Errorf("Head(%d) is %d, not %d", writes, got, headOf(writes))
		}
	}
}

func TestNeedP13_1(t *testing.T) {
	for writes := -200; writes <= 300; writes++ {
		if got := Need(writes); got != needOf(writes) {
			t.Errorf("Need(%d) is %d, not %d", writes, got, needOf(writes))
		}
	}
	for _, writes := range ints {
		if got := Need(writes); got != needOf(writes) {
			t.Errorf("Need(%d) is %d, not %d", writes, got, needOf(writes))
		}
	}
}

func TestEdgesP13_1(t *testing.T) {
	for _, x := range []struct{ writes, head, need int }{
		{math.MinInt, 0, 0}, {-1, 0, 0},
		{0, 1, 1},                // a head alone
		{3, 1, 4},                // the chapter's example
		{12, 1, 13},              // a head that is just full
		{13, 2, 15},              // and one that is a write too long
		{28, 2, 30}, {29, 3, 32}, // likewise
		{44, 3, 47}, {45, 4, 49}, // about the end of a half
		{96, 7, 103}, {97, 0, 0}, {math.MaxInt, 0, 0}, // about the whole ring
	} {
		if head, need := Head(x.writes), Need(x.writes); head != x.head || need != x.need {
			t.Errorf("of %d writes: %d and %d, not %d and %d", x.writes, head, need, x.head, x.need)
		}
	}
}

func TestMostP13_1(t *testing.T) {
	if Most() != 44 {
		t.Errorf("Most is %d", Most())
	}
	if Need(Most()) > 48 || Need(Most()+1) <= 48 {
		t.Errorf("of %d writes %d sectors are needed, of one more %d", Most(), Need(Most()), Need(Most()+1))
	}
	for writes := Most() + 1; writes <= 96; writes++ {
		if needOf(writes) <= 48 {
			t.Errorf("%d writes fit too", writes)
		}
	}
}

func TestMostAsksManyP13_1(t *testing.T) {
	for range 3 {
		fresh := limit{}
		var all sync.WaitGroup
		got := make([]int, 16)
		for i := range got {
			all.Go(func() { got[i] = fresh.writes() + Most() })
		}
		all.Wait()
		for i, most := range got {
			if most != 88 {
				t.Errorf("asker %d was told %d twice over", i, most)
			}
		}
	}
}

func TestPlacesP13_2(t *testing.T) {
	for _, seq := range seqs {
		for _, sectors := range ints {
			got, e := Places(seq, sectors)
			want, wantE := placesOf(seq, sectors)
			if !slices.Equal(got, want) || e != wantE {
				t.Errorf("Places(%d, %d) is %v, %d, not %v, %d", seq, sectors, got, e, want, wantE)
			}
		}
	}
	for sectors := -60; sectors <= 110; sectors++ {
		for seq := int64(-4); seq <= 9; seq++ {
			got, e := Places(seq, sectors)
			want, wantE := placesOf(seq, sectors)
			if !slices.Equal(got, want) || e != wantE {
				t.Errorf("Places(%d, %d) is %v, %d, not %v, %d", seq, sectors, got, e, want, wantE)
			}
		}
	}
}

func TestPlacesEdgesP13_2(t *testing.T) {
	for _, x := range []struct {
		seq     int64
		sectors int
		want    string
		e       api.Errno
	}{
		{2, 2, "[4 5]", api.OK}, {3, 2, "[52 53]", api.OK}, // the chapter's examples
		{1, 0, "[]", api.OK}, {1, 1, "[52]", api.OK},
		{api.MaxSeq, 1, "[4]", api.OK}, {api.MaxSeq - 1, 1, "[52]", api.OK},
		{0, 1, "[]", api.ErrArg}, {-1, 1, "[]", api.ErrArg}, {api.MaxSeq + 1, 1, "[]", api.ErrArg},
		{0, 49, "[]", api.ErrArg}, {api.MaxSeq + 1, -1, "[]", api.ErrArg}, // the number is looked at first
		{1, -1, "[]", api.ErrRange}, {2, 49, "[]", api.ErrRange}, {2, 96, "[]", api.ErrRange},
	} {
		if got, e := Places(x.seq, x.sectors); fmt.Sprint(got) != x.want || e != x.e {
			t.Errorf("Places(%d, %d) is %v, %d, not %s, %d", x.seq, x.sectors, got, e, x.want, x.e)
		}
	}
}

// The batch ahead stays whole: no two numbers one behind the other share a sector, and neither has one of a mark or of data.
func TestHalvesApartP13_2(t *testing.T) {
	for _, seq := range []int64{1, 2, 3, 4, 1<<32 - 1, 1 << 32, 1<<53 - 2, 1<<53 - 1} {
		one, e := Places(seq, 48)
		two, e2 := Places(seq+1, 48)
		if e != api.OK || e2 != api.OK {
			t.Fatalf("of %d: %d, %d", seq, e, e2)
		}
		all := slices.Concat(one, two)
		slices.Sort(all)
		for i, at := range all {
			if at != 4+i {
				t.Fatalf("of %d: the sectors of both halves are %v", seq, all)
			}
		}
		if len(all) != 96 {
			t.Errorf("of %d: %d sectors", seq, len(all))
		}
	}
}

func TestPlacesAreApartP2(t *testing.T) {
	one, _ := Places(2, 48)
	two, _ := Places(2, 48)
	for i := range one[:cap(one)] {
		one[:cap(one)][i] = -7
	}
	_ = append(one[:10], -8)
	want, _ := placesOf(2, 48)
	if !slices.Equal(two, want) {
		t.Errorf("another answer became %v", two)
	}
	if three, _ := Places(2, 48); !slices.Equal(three, want) {
		t.Errorf("a later answer became %v", three)
	}
}

func TestMarkP13_2(t *testing.T) {
	for _, seq := range seqs {
		want, wantE := 2, api.OK
		if seq&1 == 1 {
			want = 3
		}
		if !mayBe(seq) {
			want, wantE = 0, api.ErrArg
		}
		if at, e := Mark(seq); at != want || e != wantE {
			t.Errorf("Mark(%d) is %d, %d, not %d, %d", seq, at, e, want, wantE)
		}
	}
}

func TestPackP13_3(t *testing.T) {
	for _, x := range []struct {
		sizes []int
		want  int
	}{
		{nil, 0}, {[]int{}, 0},
		{[]int{0}, 1}, {[]int{44}, 1}, {[]int{45}, 0}, {[]int{-1}, 0},
		{[]int{44, 0, 0, 0}, 4}, {[]int{44, 0, 1, 0}, 2}, {[]int{0, 0, 44, 0}, 4}, {[]int{0, 0, 45, 0}, 2},
		{[]int{43, 1}, 2}, {[]int{43, 2}, 1}, {[]int{22, 22, 0, 1}, 3},
		{[]int{20, 20, 4, 0, 1}, 4}, {[]int{20, 20, 5, 0, 1}, 2},
		{[]int{1, -1, 1}, 1}, {[]int{45, 1}, 0}, {[]int{40, 5, 1}, 1}, // what stands behind one that doesn't fit isn't taken
		{[]int{44, -1}, 1}, {[]int{44, math.MinInt}, 1}, {[]int{1, math.MaxInt}, 1},
		{[]int{1, math.MaxInt, math.MinInt}, 1}, {[]int{44, math.MaxInt - 43}, 1},
	} {
		if got := Pack(x.sizes); got != x.want {
			t.Errorf("Pack(%v) is %d, not %d", x.sizes, got, x.want)
		}
	}
}

func TestPackByTheModelP13_3(t *testing.T) {
	for _, a := range ints {
		for _, b := range ints {
			for _, c := range ints {
				if sizes := []int{a, b, c}; Pack(sizes) != packOf(sizes) {
					t.Fatalf("Pack(%v) is %d, not %d", sizes, Pack(sizes), packOf(sizes))
				}
			}
		}
	}
	for n := range 100 {
		for size := range 46 {
			sizes := slices.Repeat([]int{size}, n)
			if Pack(sizes) != packOf(sizes) {
				t.Fatalf("Pack of %d times %d is %d, not %d", n, size, Pack(sizes), packOf(sizes))
			}
		}
	}
}

func TestPackOfManyP13_3(t *testing.T) {
	sizes := make([]int, 100000)
	if got := Pack(sizes); got != len(sizes) {
		t.Errorf("of 100000 lists without writes %d fit", got)
	}
	sizes[99999] = 45
	if got := Pack(sizes); got != 99999 {
		t.Errorf("with one too great at the end %d fit", got)
	}
}

func TestPackLeavesItsListP13_3(t *testing.T) {
	sizes := []int{20, 20, 4, 1, 7}
	if got := Pack(sizes[:2]); got != 2 {
		t.Errorf("Pack reads behind the length: %d", got)
	}
	if got := Pack(sizes); got != 3 {
		t.Errorf("Pack is %d", got)
	}
	if !slices.Equal(sizes, []int{20, 20, 4, 1, 7}) {
		t.Errorf("the list became %v", sizes)
	}
}

// What Pack takes fits a half, and with the next list it wouldn't.
func FuzzPackP13_3(f *testing.F) {
	f.Add([]byte{20, 20, 4, 0, 1})
	f.Add([]byte{44, 200})
	f.Add([]byte{})
	f.Fuzz(func(t *testing.T, bytes []byte) {
		sizes := make([]int, len(bytes))
		for i, b := range bytes {
			sizes[i] = int(int8(b))
		}
		n := Pack(sizes)
		if n != packOf(sizes) {
			t.Fatalf("Pack(%v) is %d, not %d", sizes, n, packOf(sizes))
		}
		sum := 0
		for _, size := range sizes[:n] {
			sum += size
		}
		if Need(sum) > 48 {
			t.Fatalf("%d writes need %d sectors", sum, Need(sum))
		}
	})
}
