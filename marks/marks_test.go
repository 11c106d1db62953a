package marks

import (
	"math"
	"slices"
	"sync"
	"testing"
)

// holds tells as the chapter words it if a number is in a set: by the bit i modulo 64 of the word i / 64.
func holds(s Set, i int) bool {
	return i >= 0 && i < 256 && s[i/64]>>(i%64)&1 == 1
}

// made is the set of those numbers from 0 to 255 that a rule takes, bit by bit.
func made(in func(i int) bool) Set {
	var s Set
	for i := range 256 {
		if in(i) {
			s[i/64] |= uint64(1) << (i % 64)
		}
	}
	return s
}

// sets are the empty one, the full one, those of each number alone and of all others, and such with short and long runs, within words and across them.
func sets() []Set {
	all := ^uint64(0)
	out := []Set{{}, {all, all, all, all}, {all}, {0, all}, {0, 0, all}, {0, 0, 0, all}, {0, all, all}, {all, 0, 0, all}, {1, 0, 0, 1 << 63}, {1 << 63, 1, 1 << 63, 1}, {3 << 62, 1, 0, 0}}
	for i := range 256 {
		out = append(out, made(func(k int) bool { return k == i }), made(func(k int) bool { return k != i }))
	}
	for _, n := range []int{2, 3, 5, 7, 63, 64, 65, 100} {
		out = append(out, made(func(k int) bool { return k%n == 0 }), made(func(k int) bool { return k%n != 0 }), made(func(k int) bool { return k/n%2 == 1 }))
	}
	word := uint64(1)
	for range 40 {
		var s Set
		for at := range s {
			word = word*6364136223846793005 + 1442695040888963407
			s[at] = word
		}
		out = append(out, s)
	}
	return out
}

// numbers are all that may be, their neighbours, and the greatest and least ones of all.
func numbers() []int {
	out := []int{math.MinInt, math.MinInt + 1, math.MinInt + 255, math.MinInt / 2, -1 << 32, -257, -256, -255, -65, -64, -63, math.MaxInt, math.MaxInt - 1, math.MaxInt - 255, math.MaxInt / 2, 1 << 32, 1<<32 + 1, 1 << 16, 512}
	for i := -3; i < 323; i++ {
		out = append(out, i)
	}
	return out
}

// some are fewer of the sets, for what is asked of each two of them.
func some() []Set {
	l := sets()
	return append(l[:40:40], l[len(l)-64:]...)
}

func TestOfP7_1(t *testing.T) {
	for _, x := range []struct {
		l    []int
		want Set
	}{
		{nil, Set{}},
		{[]int{}, Set{}},
		{[]int{0}, Set{1}},
		{[]int{255}, Set{0, 0, 0, 1 << 63}},
		{[]int{63, 64}, Set{1 << 63, 1}},
		{[]int{127, 128, 191, 192}, Set{0, 1 << 63, 1 | 1<<63, 1}},
		{[]int{3, 1, 2, 70}, Set{14, 1 << 6}}, // the chapter's example
		{[]int{5, 5, 5}, Set{32}},
		{[]int{-1, 256, 257, -64, -256, 320, math.MinInt, math.MaxInt}, Set{}},
		{[]int{-1, 7, 256, 9, math.MaxInt, 7}, Set{1<<7 | 1<<9}},
		{[]int{1 << 32, 1<<32 + 3, -1<<32 + 3, math.MinInt + 3}, Set{}},
	} {
		if got := Of(x.l...); got != x.want {
			t.Errorf("Of(%v) is %x, want %x", x.l, got, x.want)
		}
	}
}

func TestOfOneNumberP7_1(t *testing.T) {
	for _, i := range numbers() {
		want := made(func(k int) bool { return k == i })
		if got := Of(i); got != want {
			t.Errorf("Of(%d) is %x, want %x", i, got, want)
		}
		if got := Of(i, 100, i); got != want.Or(Set{0, 1 << 36}) {
			t.Errorf("Of(%d, 100, %d) is %x", i, i, got)
		}
	}
}

func TestOfListP7_1(t *testing.T) {
	whole := []int{9, -4, 300, 8, 1, 2}
	list := whole[:4]
	if got, want := Of(list...), (Set{1<<8 | 1<<9}); got != want {
		t.Errorf("%x, want %x: nothing behind the list's length", got, want)
	}
	if !slices.Equal(whole, []int{9, -4, 300, 8, 1, 2}) {
		t.Errorf("the list was changed: %v", whole)
	}
	s := Of(list...)
	list[0] = 77
	if s != (Set{1<<8 | 1<<9}) {
		t.Error("a set hangs on a list of which it was made")
	}
}

func TestOfLongListP7_1(t *testing.T) {
	var l []int
	for i := range 100000 {
		l = append(l, i*37-1000)
	}
	want := made(func(k int) bool { return slices.Contains(l, k) })
	if got := Of(l...); got != want {
		t.Errorf("%x, want %x", got, want)
	}
}

func TestUptoP7_1(t *testing.T) {
	for _, n := range numbers() {
		want := made(func(k int) bool { return k < n })
		if got := Upto(n); got != want {
			t.Errorf("Upto(%d) is %x, want %x", n, got, want)
		}
	}
}

func TestHasP7_1(t *testing.T) {
	for _, s := range sets() {
		for _, i := range numbers() {
			if got := s.Has(i); got != holds(s, i) {
				t.Errorf("%x has %d: %v", s, i, got)
			}
		}
	}
}

func TestWithAndWithoutP7_1(t *testing.T) {
	for _, s := range some() {
		before := s
		for _, i := range numbers() {
			with := made(func(k int) bool { return holds(s, k) || k == i })
			if got := s.With(i); got != with {
				t.Errorf("%x with %d is %x, want %x", s, i, got, with)
			}
			without := made(func(k int) bool { return holds(s, k) && k != i })
			if got := s.Without(i); got != without {
				t.Errorf("%x without %d is %x, want %x", s, i, got, without)
			}
		}
		if s != before {
			t.Fatalf("%x became %x", before, s)
		}
	}
}

func TestTwoSetsP7_2(t *testing.T) {
	for _, s := range some() {
		for _, u := range some() {
			for name, x := range map[string]struct{ got, want Set }{
				"Or":   {s.Or(u), made(func(k int) bool { return holds(s, k) || holds(u, k) })},
				"And":  {s.And(u), made(func(k int) bool { return holds(s, k) && holds(u, k) })},
				"Less": {s.Less(u), made(func(k int) bool { return holds(s, k) && !holds(u, k) })},
			} {
				if x.got != x.want {
					t.Fatalf("%s of %x and %x is %x, want %x", name, s, u, x.got, x.want)
				}
			}
		}
	}
}

func TestTwoSetsStayP7_2(t *testing.T) {
	s, u := Set{1, 2, 3, 4}, Set{7, 7, 7, 7}
	s.Or(u)
	s.And(u)
	s.Less(u)
	if s != (Set{1, 2, 3, 4}) || u != (Set{7, 7, 7, 7}) {
		t.Errorf("the sets became %x and %x", s, u)
	}
}

func TestCountAndEmptyP7_2(t *testing.T) {
	for _, s := range sets() {
		count := 0
		for i := range 256 {
			if holds(s, i) {
				count++
			}
		}
		if got := s.Count(); got != count {
			t.Errorf("%x has %d, want %d", s, got, count)
		}
		if got := s.Empty(); got != (count == 0) {
			t.Errorf("%x is empty: %v", s, got)
		}
	}
	if !(Set{}).Empty() || (Set{}).Count() != 0 {
		t.Error("the empty set")
	}
}

func TestListP7_3(t *testing.T) {
	if got := Of(3, 1, 2, 70).List(); !slices.Equal(got, []int{1, 2, 3, 70}) { // the chapter's example
		t.Errorf("%v", got)
	}
	for _, s := range sets() {
		var want []int
		for i := range 256 {
			if holds(s, i) {
				want = append(want, i)
			}
		}
		if got := s.List(); !slices.Equal(got, want) {
			t.Errorf("%x: %v, want %v", s, got, want)
		}
	}
}

func TestNextP7_3(t *testing.T) {
	if n, ok := Of(3, 1, 2, 70).Next(4); n != 70 || !ok { // the chapter's example
		t.Errorf("%d, %v", n, ok)
	}
	for _, s := range sets() {
		for _, from := range numbers() {
			want, found := 0, false
			for i := range 256 {
				if holds(s, i) && i >= from {
					want, found = i, true
					break
				}
			}
			if got, ok := s.Next(from); got != want || ok != found {
				t.Fatalf("%x from %d on: %d, %v, want %d, %v", s, from, got, ok, want, found)
			}
		}
	}
}

func TestLastP7_3(t *testing.T) {
	for _, s := range sets() {
		want, found := 0, false
		for i := range 256 {
			if holds(s, i) {
				want, found = i, true
			}
		}
		if got, ok := s.Last(); got != want || ok != found {
			t.Errorf("%x: %d, %v, want %d, %v", s, got, ok, want, found)
		}
	}
}

// runsOf goes from number to number, as the chapter words it.
func runsOf(s Set) [][2]int {
	var out [][2]int
	for i := range 256 {
		if !holds(s, i) || holds(s, i-1) {
			continue
		}
		many := 0
		for holds(s, i+many) {
			many++
		}
		out = append(out, [2]int{i, many})
	}
	return out
}

func TestRunsP7_3(t *testing.T) {
	for _, x := range []struct {
		s    Set
		want [][2]int
	}{
		{Of(3, 1, 2, 70), [][2]int{{1, 3}, {70, 1}}}, // the chapter's example
		{Set{}, nil},
		{Upto(256), [][2]int{{0, 256}}},
		{Of(0, 255), [][2]int{{0, 1}, {255, 1}}},
		{Of(62, 63, 64, 66), [][2]int{{62, 3}, {66, 1}}},
		{Of(253, 254, 255), [][2]int{{253, 3}}},
	} {
		if got := x.s.Runs(); !slices.Equal(got, x.want) {
			t.Errorf("%x: %v, want %v", x.s, got, x.want)
		}
	}
	for _, s := range sets() {
		if got, want := s.Runs(), runsOf(s); !slices.Equal(got, want) {
			t.Errorf("%x: %v, want %v", s, got, want)
		}
	}
}

func TestAnswersAreNewMemory(t *testing.T) {
	s := Of(3, 1, 2, 70)
	list, runs := s.List(), s.Runs()
	clear(list[:cap(list)])
	clear(runs[:cap(runs)])
	if !slices.Equal(s.List(), []int{1, 2, 3, 70}) || !slices.Equal(s.Runs(), [][2]int{{1, 3}, {70, 1}}) {
		t.Error("an answer that was changed is told again")
	}
}

func TestSetsApartP2(t *testing.T) {
	s := Of(1, 2)
	u := s
	s = s.With(3)
	s[3] = 7
	if u != Of(1, 2) {
		t.Errorf("a set changed with another one: %x", u)
	}
}

func TestCallsAtTheSameTimeP2(t *testing.T) {
	var all sync.WaitGroup
	for _, s := range some() {
		all.Go(func() {
			if !slices.Equal(s.Runs(), runsOf(s)) || Of(s.List()...) != s {
				t.Errorf("%x: %v", s, s.Runs())
			}
		})
	}
	all.Wait()
}
