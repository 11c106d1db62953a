package spans

import (
	"math"
	"slices"
	"sync"
	"testing"

	"trunnion/api"
)

// width is how many places the small lists are made of.
const width = 9

// starts are where those places may lie: at the first place, amid, and up to the last one.
var starts = []int{0, 1 << 20, api.MaxAt - width}

// ends are numbers that a span may begin or end with, or may not.
var ends = []int{math.MinInt, math.MinInt + 1, -1 << 40, -2, -1, 0, 1, 2, 3, 4, 1 << 39, api.MaxAt - 1, api.MaxAt, api.MaxAt + 1, math.MaxInt - 1, math.MaxInt}

// listOf is the good list of the places whose bits are set, the lowest bit's being at start: by the chapter's words, place by place.
func listOf(bits uint, start int) List {
	l := List{}
	for i := range width {
		if bits>>i&1 == 0 {
			continue
		}
		if i > 0 && bits>>(i-1)&1 == 1 {
			l[len(l)-1].To++
		} else {
			l = append(l, Span{start + i, start + i + 1})
		}
	}
	return l
}

// bitsOf is the places of a span, as bits.
func bitsOf(s Span, start int) uint {
	bits := uint(0)
	for i := s.From; i < s.To; i++ {
		bits |= 1 << (i - start)
	}
	return bits
}

// spansFrom are all good spans of the small lists' places.
func spansFrom(start int) []Span {
	var all []Span
	for from := range width {
		for to := from + 1; to <= width; to++ {
			all = append(all, Span{start + from, start + to})
		}
	}
	return all
}

// goodSpan is the chapter's sentence on a good span.
func goodSpan(s Span) bool {
	if s.From < 0 {
		return false
	}
	if s.From >= s.To {
		return false
	}
	return s.To <= 1099511627776
}

// goodList is the chapter's sentence on a good list: between two spans there is a place at least.
func goodList(l List) bool {
	for i, s := range l {
		if !goodSpan(s) {
			return false
		}
		if i > 0 && s.From-l[i-1].To < 1 {
			return false
		}
	}
	return true
}

// calls are those of a list with a span, and what they make of the bits of both.
var calls = []struct {
	name string
	call func(List, Span) (List, api.Errno)
	bits func(l, s uint) uint
}{
	{"Add", List.Add, func(l, s uint) uint { return l | s }},
	{"Cut", List.Cut, func(l, s uint) uint { return l &^ s }},
	{"Meet", List.Meet, func(l, s uint) uint { return l & s }},
	{"Gaps", List.Gaps, func(l, s uint) uint { return s &^ l }},
}

func TestSpanGoodP8_1(t *testing.T) {
	for _, from := range ends {
		for _, to := range ends {
			s := Span{from, to}
			if s.Good() != goodSpan(s) {
				t.Errorf("%v: good is %t", s, s.Good())
			}
			want := 0
			if goodSpan(s) {
				want = to - from
			}
			if s.Len() != want {
				t.Errorf("%v has %d places, want %d", s, s.Len(), want)
			}
		}
	}
}

func TestSpanEdgesP8_1(t *testing.T) {
	for _, x := range []struct {
		s    Span
		good bool
		size int
	}{
		{Span{0, 1}, true, 1},
		{Span{0, api.MaxAt}, true, api.MaxAt},
		{Span{api.MaxAt - 1, api.MaxAt}, true, 1},
		{Span{3, 9}, true, 6},
		{Span{}, false, 0},
		{Span{5, 5}, false, 0},
		{Span{6, 5}, false, 0},
		{Span{-1, 5}, false, 0},
		{Span{0, api.MaxAt + 1}, false, 0},
		{Span{api.MaxAt, api.MaxAt + 1}, false, 0},
		{Span{math.MinInt, math.MaxInt}, false, 0},
		{Span{math.MaxInt, math.MinInt}, false, 0},
	} {
		if x.s.Good() != x.good || x.s.Len() != x.size {
			t.Errorf("%v: %t, %d", x.s, x.s.Good(), x.s.Len())
		}
	}
}

func TestListGoodP8_1(t *testing.T) {
	for _, x := range []struct {
		l    List
		good bool
	}{
		{nil, true},
		{List{}, true},
		{List{{0, 1}}, true},
		{List{{0, 2}, {5, 9}}, true},
		{List{{0, 2}, {3, 4}}, true},
		{List{{0, 2}, {2, 3}}, false},
		{List{{0, 2}, {1, 3}}, false},
		{List{{5, 9}, {0, 2}}, false},
		{List{{0, 2}, {0, 2}}, false},
		{List{{0, 2}, {4, 4}, {6, 7}}, false},
		{List{{0, 2}, {4, 6}, {6, 7}}, false},
		{List{{}}, false},
		{List{{-1, 2}}, false},
		{List{{0, api.MaxAt}}, true},
		{List{{0, 1}, {2, api.MaxAt + 1}}, false},
	} {
		if x.l.Good() != x.good {
			t.Errorf("%v: good is %t", x.l, x.l.Good())
		}
	}
}

func TestListGoodAtAllEndsP8_1(t *testing.T) {
	var some []Span
	for _, from := range ends {
		for _, to := range ends {
			if s := (Span{from, to}); goodSpan(s) || (from+to)%3 == 0 {
				some = append(some, s)
			}
		}
	}
	for _, a := range some {
		for _, b := range some {
			for _, l := range []List{{a}, {a, b}, {{0, 1}, a, b}, {a, b, {6, 7}}} {
				if l.Good() != goodList(l) {
					t.Errorf("%v: good is %t", l, l.Good())
				}
			}
		}
	}
}

func TestErrorsP8_1(t *testing.T) {
	good := List{{0, 2}, {5, 9}}
	bad := []List{{{0, 2}, {2, 3}}, {{5, 9}, {0, 2}}, {{2, 2}}, {{-1, 3}}, {{0, api.MaxAt + 1}}, {{0, 1}, {3, 5}, {math.MinInt, math.MaxInt}}, {{math.MaxInt, math.MinInt}}}
	for _, x := range calls {
		for _, from := range ends {
			for _, to := range ends {
				s := Span{from, to}
				for _, l := range bad {
					if got, e := x.call(l, s); len(got) != 0 || e != api.ErrForm {
						t.Errorf("%v %s %v: %v, %v", l, x.name, s, got, e)
					}
				}
				want := api.ErrArg
				if goodSpan(s) {
					want = api.OK
				}
				for _, l := range []List{nil, {}, good} {
					if got, e := x.call(l, s); e != want || e != api.OK && len(got) != 0 {
						t.Errorf("%v %s %v: %v, %v", l, x.name, s, got, e)
					}
				}
			}
		}
	}
}

func TestJoinErrorsP8_1(t *testing.T) {
	good := List{{0, 2}, {5, 9}}
	for _, bad := range []List{{{0, 2}, {2, 3}}, {{5, 9}, {0, 2}}, {{2, 2}}, {{-1, 3}}, {{math.MinInt, math.MaxInt}}} {
		for _, other := range []List{nil, good, bad} {
			if got, e := bad.Join(other); len(got) != 0 || e != api.ErrForm {
				t.Errorf("%v join %v: %v, %v", bad, other, got, e)
			}
			if got, e := other.Join(bad); len(got) != 0 || e != api.ErrForm {
				t.Errorf("%v join %v: %v, %v", other, bad, got, e)
			}
		}
	}
}

func TestExamplesP8_2(t *testing.T) {
	l := List{{0, 2}, {5, 9}}
	for _, x := range []struct {
		name string
		call func(Span) (List, api.Errno)
		s    Span
		want List
	}{
		{"Add", l.Add, Span{2, 3}, List{{0, 3}, {5, 9}}},
		{"Cut", l.Cut, Span{6, 7}, List{{0, 2}, {5, 6}, {7, 9}}},
		{"Gaps", l.Gaps, Span{1, 7}, List{{2, 5}}},
		{"Meet", l.Meet, Span{1, 7}, List{{1, 2}, {5, 7}}},
		{"Add", l.Add, Span{2, 5}, List{{0, 9}}},
		{"Add", l.Add, Span{3, 4}, List{{0, 2}, {3, 4}, {5, 9}}},
		{"Add", l.Add, Span{0, api.MaxAt}, List{{0, api.MaxAt}}},
		{"Cut", l.Cut, Span{0, api.MaxAt}, List{}},
		{"Gaps", l.Gaps, Span{0, api.MaxAt}, List{{2, 5}, {9, api.MaxAt}}},
		{"Meet", l.Meet, Span{0, api.MaxAt}, List{{0, 2}, {5, 9}}},
		{"Add", List(nil).Add, Span{4, 6}, List{{4, 6}}},
		{"Cut", List(nil).Cut, Span{4, 6}, nil},
		{"Meet", List(nil).Meet, Span{4, 6}, nil},
		{"Gaps", List(nil).Gaps, Span{4, 6}, List{{4, 6}}},
	} {
		if got, e := x.call(x.s); !slices.Equal(got, x.want) || e != api.OK {
			t.Errorf("%s(%v) is %v, %v; want %v", x.name, x.s, got, e, x.want)
		}
	}
}

func TestEverySmallListP8_2(t *testing.T) {
	for _, start := range starts {
		for bits := range uint(1) << width {
			l := listOf(bits, start)
			for _, s := range spansFrom(start) {
				for _, x := range calls {
					want := listOf(x.bits(bits, bitsOf(s, start)), start)
					if got, e := x.call(l, s); !slices.Equal(got, want) || e != api.OK {
						t.Fatalf("%v %s %v is %v, %v; want %v", l, x.name, s, got, e, want)
					}
				}
			}
			if !slices.Equal(l, listOf(bits, start)) {
				t.Fatalf("the list was changed: %v", l)
			}
		}
	}
}

func TestJoinEverySmallListP8_2(t *testing.T) {
	for _, start := range starts {
		for a := range uint(1) << width {
			// All pairs with every third list are enough, and quick.
			for b := a % 3; b < 1<<width; b += 3 {
				l, m, want := listOf(a, start), listOf(b, start), listOf(a|b, start)
				if got, e := l.Join(m); !slices.Equal(got, want) || e != api.OK {
					t.Fatalf("%v join %v is %v, %v; want %v", l, m, got, e, want)
				}
			}
		}
	}
}

func TestJoinP8_2(t *testing.T) {
	for _, x := range []struct{ l, m, want List }{
		{nil, nil, nil},
		{nil, List{{1, 2}}, List{{1, 2}}},
		{List{{1, 2}}, nil, List{{1, 2}}},
		{List{{0, 2}, {5, 9}}, List{{1, 5}, {10, 11}}, List{{0, 9}, {10, 11}}},
		{List{{0, api.MaxAt}}, List{{3, 4}, {9, 10}}, List{{0, api.MaxAt}}},
		{List{{0, 1}, {2, 3}, {4, 5}}, List{{1, 2}, {3, 4}}, List{{0, 5}}},
		{List{{7, 8}}, List{{7, 8}}, List{{7, 8}}},
	} {
		if got, e := x.l.Join(x.m); !slices.Equal(got, x.want) || e != api.OK {
			t.Errorf("%v join %v is %v, %v; want %v", x.l, x.m, got, e, x.want)
		}
		if got, e := x.m.Join(x.l); !slices.Equal(got, x.want) || e != api.OK {
			t.Errorf("%v join %v is %v, %v; want %v", x.m, x.l, got, e, x.want)
		}
	}
}

// long is a list of many spans of one place each, with one place between.
func long(count, first int) List {
	l := make(List, 0, count)
	for i := range count {
		l = append(l, Span{first + 2*i, first + 2*i + 1})
	}
	return l
}

func TestLongListsP8_2(t *testing.T) {
	const count = 200000
	even, odd := long(count, 0), long(count, 1)
	if got, e := even.Join(odd); !slices.Equal(got, List{{0, 2 * count}}) || e != api.OK {
		t.Errorf("Join is %d spans, %v", len(got), e)
	}
	if got, e := even.Gaps(Span{0, 2 * count}); !slices.Equal(got, odd) || e != api.OK {
		t.Errorf("Gaps is %d spans, %v", len(got), e)
	}
	if got, e := even.Meet(Span{10, 2*count - 10}); !slices.Equal(got, even[5:count-5]) || e != api.OK {
		t.Errorf("Meet is %d spans, %v", len(got), e)
	}
	if got, e := even.Cut(Span{0, 2*count - 10}); !slices.Equal(got, even[count-5:]) || e != api.OK {
		t.Errorf("Cut is %d spans, %v", len(got), e)
	}
	if got, e := even.Add(Span{1, 2*count - 1}); !slices.Equal(got, List{{0, 2*count - 1}}) || e != api.OK {
		t.Errorf("Add is %d spans, %v", len(got), e)
	}
	if even.Total() != count || !even.Has(2*count-2) || even.Has(2*count-1) {
		t.Errorf("Total is %d", even.Total())
	}
}

func TestHasTotalP8_3(t *testing.T) {
	for _, start := range starts {
		for bits := range uint(1) << width {
			l, total := listOf(bits, start), 0
			for i := -2; i < width+2; i++ {
				want := i >= 0 && i < width && bits>>i&1 == 1
				if want {
					total++
				}
				if l.Has(start+i) != want {
					t.Fatalf("%v has %d: %t", l, start+i, !want)
				}
			}
			if l.Total() != total {
				t.Fatalf("%v has %d places, want %d", l, l.Total(), total)
			}
		}
	}
}

func TestHasEdgesP8_3(t *testing.T) {
	whole := List{{0, api.MaxAt}}
	if whole.Total() != api.MaxAt {
		t.Errorf("Total is %d", whole.Total())
	}
	for _, i := range ends {
		if want := i >= 0 && i < api.MaxAt; whole.Has(i) != want {
			t.Errorf("the whole list has %d: %t", i, !want)
		}
		if (List{}).Has(i) || List(nil).Has(i) {
			t.Errorf("an empty list has %d", i)
		}
	}
	if (List{}).Total() != 0 || List(nil).Total() != 0 {
		t.Error("an empty list has places")
	}
}

func TestHasTotalOfBadListsP8_3(t *testing.T) {
	for _, l := range []List{{{0, 2}, {2, 3}}, {{0, 2}, {1, 3}}, {{5, 9}, {0, 2}}, {{0, 2}, {4, 4}}, {{-1, 3}}, {{0, api.MaxAt + 1}}, {{0, 2}, {5, math.MaxInt}}, {{math.MinInt, math.MaxInt}}} {
		if l.Total() != 0 {
			t.Errorf("%v has %d places", l, l.Total())
		}
		for _, i := range ends {
			if l.Has(i) {
				t.Errorf("%v has %d", l, i)
			}
		}
	}
}

func TestSplitP8_4(t *testing.T) {
	for _, x := range []struct {
		s    Span
		part int
		want []Span
		e    api.Errno
	}{
		{Span{3, 9}, 4, []Span{{3, 4}, {4, 8}, {8, 9}}, api.OK}, // the chapter's example
		{Span{4, 8}, 4, []Span{{4, 8}}, api.OK},
		{Span{4, 9}, 4, []Span{{4, 8}, {8, 9}}, api.OK},
		{Span{3, 8}, 4, []Span{{3, 4}, {4, 8}}, api.OK},
		{Span{5, 7}, 4, []Span{{5, 7}}, api.OK},
		{Span{0, 3}, 1, []Span{{0, 1}, {1, 2}, {2, 3}}, api.OK},
		{Span{0, api.MaxAt}, api.MaxAt, []Span{{0, api.MaxAt}}, api.OK},
		{Span{0, api.MaxAt}, api.MaxAt - 1, []Span{{0, api.MaxAt - 1}, {api.MaxAt - 1, api.MaxAt}}, api.OK},
		{Span{7, api.MaxAt}, math.MaxInt, []Span{{7, api.MaxAt}}, api.OK},
		{Span{7, api.MaxAt}, math.MaxInt - 1, []Span{{7, api.MaxAt}}, api.OK},
		{Span{api.MaxAt - 1, api.MaxAt}, 1, []Span{{api.MaxAt - 1, api.MaxAt}}, api.OK},
		{Span{0, api.MaxAt}, 1, nil, api.ErrRange},
		{Span{0, api.MaxAt}, 1<<24 - 1, nil, api.ErrRange},
		{Span{0, 5}, 0, nil, api.ErrArg},
		{Span{0, 5}, -1, nil, api.ErrArg},
		{Span{0, 5}, math.MinInt, nil, api.ErrArg},
		{Span{0, api.MaxAt}, 0, nil, api.ErrArg},
		{Span{0, api.MaxAt + 1}, 1, nil, api.ErrArg},
		{Span{math.MinInt, math.MaxInt}, 1, nil, api.ErrArg},
		{Span{5, 5}, 3, nil, api.ErrArg},
		{Span{6, 5}, 3, nil, api.ErrArg},
		{Span{-1, 5}, 3, nil, api.ErrArg},
		{Span{}, 0, nil, api.ErrArg},
	} {
		if got, e := Split(x.s, x.part); !slices.Equal(got, x.want) || e != x.e {
			t.Errorf("Split(%v, %d) is %v, %v; want %v, %v", x.s, x.part, got, e, x.want, x.e)
		}
	}
}

// byParts is what the chapter asks of Split: part after part, the span of those places of s that it has.
func byParts(s Span, part int) []Span {
	var out []Span
	for number := 0; number*part < s.To; number++ {
		piece := Span{-1, -1}
		for i := number * part; i < number*part+part; i++ {
			if i < s.From || i >= s.To {
				continue
			}
			if piece.From < 0 {
				piece.From = i
			}
			piece.To = i + 1
		}
		if piece.From >= 0 {
			out = append(out, piece)
		}
	}
	return out
}

func TestSplitSmallP8_4(t *testing.T) {
	for from := range 20 {
		for to := from + 1; to <= 24; to++ {
			for part := 1; part < 27; part++ {
				s := Span{from, to}
				if got, e := Split(s, part); !slices.Equal(got, byParts(s, part)) || e != api.OK {
					t.Fatalf("Split(%v, %d) is %v, %v", s, part, got, e)
				}
			}
		}
	}
}

func TestSplitIntoManyP8_4(t *testing.T) {
	for _, x := range []struct {
		s     Span
		part  int
		count int
	}{
		{Span{0, 65536}, 1, 65536},
		{Span{0, 65537}, 1, 0},
		{Span{0, api.MaxAt}, 1 << 24, 65536},
		{Span{1, 65537*3 - 1}, 3, 0},
		{Span{1, 65536*3 + 1}, 3, 0},
		{Span{2, 65536 * 3}, 3, 65536},
		{Span{3, 65536*3 + 3}, 3, 65536},
		{Span{5, 65536*3 + 3}, 3, 65536},
		{Span{5, 65536*3 + 4}, 3, 0},
		{Span{api.MaxAt - 65536, api.MaxAt}, 1, 65536},
		{Span{api.MaxAt - 65537, api.MaxAt}, 1, 0},
	} {
		got, e := Split(x.s, x.part)
		want := api.OK
		if x.count == 0 {
			want = api.ErrRange
		}
		if len(got) != x.count || e != want {
			t.Errorf("Split(%v, %d) is %d spans, %v", x.s, x.part, len(got), e)
			continue
		}
		for i, s := range got {
			if s.From/x.part != (s.To-1)/x.part || i > 0 && (s.From != got[i-1].To || s.From%x.part != 0) {
				t.Fatalf("Split(%v, %d) has %v at %d", x.s, x.part, s, i)
			}
		}
		if x.count > 0 && (got[0].From != x.s.From || got[len(got)-1].To != x.s.To) {
			t.Errorf("Split(%v, %d) is from %d to %d", x.s, x.part, got[0].From, got[len(got)-1].To)
		}
	}
}

// every hands all calls that answer lists to a test, of one list; join is with that list, too.
func every(l List, each func(name string, got List)) {
	for _, s := range []Span{{0, 1}, {0, 12}, {3, 4}, {6, 7}, {2, 5}, {20, 30}} {
		for _, x := range calls {
			got, _ := x.call(l, s)
			each(x.name, got)
		}
	}
	for _, m := range []List{nil, l} {
		got, _ := l.Join(m)
		each("Join", got)
		got, _ = m.Join(l)
		each("Join", got)
	}
}

func TestListsAreNotChangedNorReadBehindTheirLengthP8_2(t *testing.T) {
	whole := List{{0, 2}, {5, 9}, {11, 12}, {14, 15}, {math.MaxInt, 0}, {22, 23}}
	before := slices.Clone(whole)
	every(whole[:4], func(name string, got List) {
		if !slices.Equal(whole, before) {
			t.Fatalf("%s changed the list: %v", name, whole)
		}
		if slices.Contains(got, Span{22, 23}) || !got.Good() {
			t.Fatalf("%s read behind the list's length: %v", name, got)
		}
	})
	if l := whole[:4]; l.Total() != 8 || l.Has(22) || !l.Good() {
		t.Errorf("read behind the list's length: %d", l.Total())
	}
}

func TestAnswersAreNewMemoryP8_2(t *testing.T) {
	whole := List{{0, 2}, {5, 9}, {11, 12}, {14, 15}, {17, 18}}
	l := whole[:4]
	before := slices.Clone(whole)
	var answers []List
	every(l, func(name string, got List) {
		if slices.Contains(got[len(got):cap(got)], Span{17, 18}) {
			t.Fatalf("%s hands out what lies behind the list's length", name)
		}
		answers = append(answers, got)
	})
	for i := range answers {
		held := make([]List, len(answers))
		for k, a := range answers {
			held[k] = slices.Clone(a)
		}
		full := answers[i][:cap(answers[i])]
		for k := range full {
			full[k] = Span{77, 78}
		}
		for k, a := range answers {
			if k != i && !slices.Equal(a, held[k]) {
				t.Fatalf("answers %d and %d share memory", i, k)
			}
		}
		if !slices.Equal(whole, before) {
			t.Fatalf("answer %d shares memory with the list", i)
		}
		copy(answers[i], held[i])
	}
}

func TestSplitAnswersNewMemoryP8_4(t *testing.T) {
	a, _ := Split(Span{3, 9}, 4)
	b, _ := Split(Span{3, 9}, 4)
	a[0], a[2] = Span{}, Span{}
	if !slices.Equal(b, []Span{{3, 4}, {4, 8}, {8, 9}}) {
		t.Errorf("two answers share memory: %v", b)
	}
}

func TestAnswersHangOnWhatIsHandedInAloneP2(t *testing.T) {
	l := List{{0, 2}, {5, 9}}
	first, _ := l.Add(Span{3, 4})
	if _, e := l.Cut(Span{0, 9}); e != api.OK {
		t.Fatal(e)
	}
	if _, e := (List{{2, 2}}).Add(Span{}); e != api.ErrForm {
		t.Fatal(e)
	}
	again, _ := l.Add(Span{3, 4})
	if !slices.Equal(first, again) {
		t.Errorf("%v, then %v", first, again)
	}
	l[1].To = 7
	if !slices.Equal(first, List{{0, 2}, {3, 4}, {5, 9}}) {
		t.Errorf("an answer hangs on a list that was changed since: %v", first)
	}
}

func TestCallsAtTheSameTimeP2(t *testing.T) {
	l := List{{0, 2}, {5, 9}}
	var all sync.WaitGroup
	for i := range 8 {
		all.Go(func() {
			for k := range 200 {
				s := Span{10 + i, 11 + i + k}
				got, e := l.Add(s)
				if e != api.OK || !slices.Equal(got, List{{0, 2}, {5, 9}, s}) || !l.Has(5) || l.Total() != 6 {
					t.Errorf("%v add %v is %v, %v", l, s, got, e)
				}
				if got, e := l.Gaps(Span{0, 9}); e != api.OK || !slices.Equal(got, List{{2, 5}}) {
					t.Errorf("%v, %v", got, e)
				}
			}
		})
	}
	all.Wait()
}
