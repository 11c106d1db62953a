package tally

import (
	"math"
	"math/big"
	"math/rand"
	"slices"
	"strings"
	"sync"
	"sync/atomic"
	"testing"
)

// top is the greatest that a count may be, by the chapter's words.
const top = int64(4611686018427387904)

// strangers are numbers of no kind.
var strangers = []Kind{math.MinInt, -1 << 32, -256, -9, -1, Kinds, Kinds + 1, 16, 255, 256, 1 << 32, math.MaxInt}

// plain is a tally as the chapter words it: what was added and what was noted, gone through anew by each question.
type plain struct {
	added map[Kind][]int64
	noted []int
}

func newPlain() *plain {
	return &plain{added: map[Kind][]int64{}}
}

func (p *plain) get(k Kind) int64 {
	if k < 0 || k > 8 {
		return 0
	}
	sum := new(big.Int)
	for _, n := range p.added[k] {
		if n > 0 {
			sum.Add(sum, big.NewInt(n))
		}
	}
	if sum.Cmp(big.NewInt(top)) > 0 {
		return top
	}
	return sum.Int64()
}

// within tells if a size is of a bar.
func within(size, bar int) bool {
	if bar == 0 {
		return size <= 0
	}
	first := new(big.Int).Exp(big.NewInt(2), big.NewInt(int64(bar-1)), nil)
	end := new(big.Int).Mul(first, big.NewInt(2))
	own := big.NewInt(int64(size))
	return own.Cmp(first) >= 0 && own.Cmp(end) < 0
}

func (p *plain) bars() []int64 {
	var all []int64
	for bar := range 64 {
		n := int64(0)
		for _, size := range p.noted {
			if within(size, bar) {
				n++
			}
		}
		all = append(all, n)
	}
	for len(all) > 0 && all[len(all)-1] == 0 {
		all = all[:len(all)-1]
	}
	return all
}

func (p *plain) most() int64 {
	return int64(slices.Max(append([]int{0}, p.noted...)))
}

func (p *plain) part(k, other Kind) int {
	if k < 0 || k > 8 || other < 0 || other > 8 {
		return 0
	}
	a, b := big.NewInt(p.get(k)), big.NewInt(p.get(other))
	all := new(big.Int).Add(a, b)
	if all.Sign() == 0 {
		return 0
	}
	return int(new(big.Int).Div(new(big.Int).Mul(a, big.NewInt(1000)), all).Int64())
}

// alike asks both for all that there is.
func alike(t *testing.T, x *Tally, p *plain) {
	t.Helper()
	for k := Kind(-1); k <= Kinds; k++ {
		if got, want := x.Get(k), p.get(k); got != want {
			t.Fatalf("Get(%d) is %d, want %d", int(k), got, want)
		}
		for other := Kind(-1); other <= Kinds; other++ {
			if got, want := x.Part(k, other), p.part(k, other); got != want {
				t.Fatalf("Part(%d, %d) of %d and %d is %d, want %d", int(k), int(other), p.get(k), p.get(other), got, want)
			}
		}
	}
	if got, want := x.Bars(), p.bars(); !slices.Equal(got, want) {
		t.Fatalf("Bars is %v, want %v", got, want)
	}
	if got, want := x.Most(), p.most(); got != want {
		t.Fatalf("Most is %d, want %d", got, want)
	}
}

// empty tells that nothing was counted.
func empty(t *testing.T, x *Tally) {
	t.Helper()
	alike(t, x, newPlain())
}

func TestExample(t *testing.T) {
	x := New()
	x.Add(Hits, 3)
	x.Add(Misses, 1)
	if got := x.Part(Hits, Misses); got != 750 {
		t.Errorf("Part is %d, want 750", got)
	}
	x.Note(5)
	x.Note(0)
	if got := x.Bars(); !slices.Equal(got, []int64{1, 0, 0, 1}) || x.Most() != 5 {
		t.Errorf("Bars is %v, Most %d", got, x.Most())
	}
}

func TestKindsP18_1(t *testing.T) {
	got := []Kind{Reads, Writes, Hits, Misses, Batches, Small, Great, Fixed, Ahead, Kinds}
	if !slices.Equal(got, []Kind{0, 1, 2, 3, 4, 5, 6, 7, 8, 9}) {
		t.Errorf("the kinds are %v", got)
	}
}

func TestNameP18_1(t *testing.T) {
	for k, want := range strings.Fields("reads writes hits misses batches small great fixed ahead") {
		if got := Kind(k).Name(); got != want {
			t.Errorf("the name of %d is %q, want %q", k, got, want)
		}
	}
	for _, k := range strangers {
		if got := k.Name(); got != "" {
			t.Errorf("the name of %d, which is no kind, is %q", int(k), got)
		}
	}
}

func TestNewP18_1(t *testing.T) {
	x := New()
	if x == nil {
		t.Fatal("New is nil")
	}
	empty(t, x)
}

func TestAddP18_1(t *testing.T) {
	x, p := New(), newPlain()
	for k := range Kinds {
		for _, n := range []int64{1, int64(k) + 1, 1000, 1 << 40} {
			x.Add(k, n)
			p.added[k] = append(p.added[k], n)
			alike(t, x, p)
		}
	}
}

func TestAddOfNothingP18_1(t *testing.T) {
	x, p := New(), newPlain()
	for _, has := range []int64{0, 7, math.MaxInt64} {
		for k := range Kinds {
			x.Add(k, has)
			p.added[k] = append(p.added[k], has)
			for _, n := range []int64{0, -1, -7, -1 << 32, -top, -top - 1, math.MinInt64 + 1, math.MinInt64} {
				x.Add(k, n)
				if got := x.Get(k); got != p.get(k) {
					t.Errorf("behind Add(%s, %d) the count is %d, want %d", k.Name(), n, got, p.get(k))
				}
			}
		}
		alike(t, x, p)
	}
}

func TestAddOfNoKindP18_1(t *testing.T) {
	x, p := New(), newPlain()
	x.Add(Ahead, 3)
	x.Add(Reads, 2)
	p.added[Ahead], p.added[Reads] = []int64{3}, []int64{2}
	for _, k := range strangers {
		for _, n := range []int64{5, math.MaxInt64, 0, -5} {
			x.Add(k, n)
		}
		if got := x.Get(k); got != 0 {
			t.Errorf("the count of %d, which is no kind, is %d", int(k), got)
		}
	}
	alike(t, x, p)
}

// TestAddUpToTheLimitP18_1: what is there and what is added, each of them about all that is an edge.
func TestAddUpToTheLimitP18_1(t *testing.T) {
	edges := []int64{0, 1, 2, top/2 - 1, top / 2, top/2 + 1, top - 2, top - 1, top, top + 1, math.MaxInt64 - 1, math.MaxInt64}
	for _, first := range edges {
		for _, second := range edges {
			x, p := New(), newPlain()
			for _, n := range []int64{first, second, 1, math.MaxInt64, 1} {
				x.Add(Great, n)
				p.added[Great] = append(p.added[Great], n)
				if got, want := x.Get(Great), p.get(Great); got != want {
					t.Errorf("behind Adds of %v the count is %d, want %d", p.added[Great], got, want)
				}
			}
			x.Reset()
			x.Add(Great, 9)
			if got := x.Get(Great); got != 9 {
				t.Errorf("behind Adds up to the limit, Reset and Add of 9, it is %d", got)
			}
		}
	}
}

// sizes are those at the edges of all bars, and below.
func sizes() []int {
	l := []int{math.MinInt, math.MinInt + 1, -1 << 32, -2, -1, 0, math.MaxInt}
	for k := range 63 {
		l = append(l, 1<<k-1, 1<<k, 1<<k+1)
	}
	return l
}

func TestNoteOfEachSizeP18_2(t *testing.T) {
	for _, size := range sizes() {
		x, p := New(), newPlain()
		for range 3 {
			x.Note(size)
			p.noted = append(p.noted, size)
			if got, want := x.Bars(), p.bars(); !slices.Equal(got, want) || x.Most() != p.most() {
				t.Errorf("behind Notes %v Bars is %v, Most %d; want %v, %d", p.noted, got, x.Most(), want, p.most())
			}
		}
	}
}

func TestNoteOfSmallSizesP18_2(t *testing.T) {
	x, p := New(), newPlain()
	for size := -3; size < 300; size++ {
		x.Note(size)
		p.noted = append(p.noted, size)
	}
	alike(t, x, p)
	if got, want := x.Bars(), []int64{4, 1, 2, 4, 8, 16, 32, 64, 128, 44}; !slices.Equal(got, want) {
		t.Errorf("Bars is %v, want %v", got, want)
	}
}

func TestNotesOfAllSizesP18_2(t *testing.T) {
	rising := slices.Sorted(slices.Values(sizes()))
	falling := slices.Clone(rising)
	slices.Reverse(falling)
	for _, order := range [][]int{rising, falling, sizes()} {
		x, p := New(), newPlain()
		for _, size := range order {
			x.Note(size)
			p.noted = append(p.noted, size)
			if x.Most() != p.most() {
				t.Errorf("behind Note(%d) Most is %d, want %d", size, x.Most(), p.most())
			}
		}
		alike(t, x, p)
		if len(x.Bars()) != 64 {
			t.Errorf("%d bars are told of all sizes", len(x.Bars()))
		}
	}
}

// TestNotesApartFromCountsP18_2: a Note is no count, and an Add no bar.
func TestNotesApartFromCountsP18_2(t *testing.T) {
	x, p := New(), newPlain()
	x.Note(8)
	p.noted = []int{8}
	alike(t, x, p)
	x.Add(Batches, 100)
	p.added[Batches] = []int64{100}
	alike(t, x, p)
}

func TestMostOfNothingAboveP18_2(t *testing.T) {
	x := New()
	for _, size := range []int{0, -1, math.MinInt} {
		x.Note(size)
		if got := x.Most(); got != 0 {
			t.Errorf("behind Note(%d) Most is %d", size, got)
		}
	}
	if got := x.Bars(); !slices.Equal(got, []int64{3}) {
		t.Errorf("Bars is %v, want 3", got)
	}
}

// TestBarsAreNewMemoryP18_2: what is done to a list that was told is seen by nobody else, and nothing is handed out behind its length.
func TestBarsAreNewMemoryP18_2(t *testing.T) {
	x := New()
	if none := x.Bars(); len(none) != 0 || cap(none) != 0 {
		t.Errorf("%d bars of nothing, with place for %d", len(none), cap(none))
	}
	x.Note(5)
	want := []int64{0, 0, 0, 1}
	one, two := x.Bars(), x.Bars()
	if cap(one) != 4 {
		t.Errorf("4 bars have place for %d", cap(one))
	}
	for i := range one {
		one[i] = 77
	}
	longer := append(one, 88)
	longer[0] = 99
	if !slices.Equal(two, want) || !slices.Equal(x.Bars(), want) || one[0] != 77 {
		t.Errorf("the bars are %v, %v, %v", one, two, x.Bars())
	}
	x.Note(5)
	if !slices.Equal(two, want) {
		t.Errorf("bars that were told are %v behind another Note", two)
	}
}

func TestPartP18_3(t *testing.T) {
	for _, c := range []struct {
		a, b int64
		want int
	}{
		{0, 0, 0}, {0, 1, 0}, {1, 0, 1000}, {1, 1, 500}, {3, 1, 750},
		{1, 2, 333}, {2, 1, 666}, {999, 1, 999}, {1, 999, 1}, {1, 1000, 0},
		{1999, 1, 999}, {top, 0, 1000}, {0, top, 0}, {top, 1, 999}, {1, top, 0},
		{top, top, 500}, {top - 1, top, 499}, {top, top - 1, 500}, {top, top / 3, 750}, {top / 3, top, 249},
	} {
		x := New()
		x.Add(Hits, c.a)
		x.Add(Misses, c.b)
		if got := x.Part(Hits, Misses); got != c.want {
			t.Errorf("Part of %d and %d is %d, want %d", c.a, c.b, got, c.want)
		}
	}
}

func TestPartOfAllCountsP18_3(t *testing.T) {
	counts := []int64{0, 1, 2, 3, 7, 499, 500, 501, 999, 1000, 1001, 1 << 20, 9223372036854775, 9223372036854776, 18446744073709551, 18446744073709552, 1 << 55, top / 1000, top/1000 + 1, top / 3, top / 2, top - 1, top}
	for _, a := range counts {
		for _, b := range counts {
			x, p := New(), newPlain()
			x.Add(Small, a)
			x.Add(Great, b)
			p.added[Small], p.added[Great] = []int64{a}, []int64{b}
			for _, pair := range [][2]Kind{{Small, Great}, {Great, Small}, {Small, Small}, {Great, Great}, {Small, Fixed}, {Fixed, Small}} {
				if got, want := x.Part(pair[0], pair[1]), p.part(pair[0], pair[1]); got != want {
					t.Errorf("of %d and %d Part(%s, %s) is %d, want %d", a, b, pair[0].Name(), pair[1].Name(), got, want)
				}
			}
		}
	}
}

func TestPartOfNoKindP18_3(t *testing.T) {
	x := New()
	for k := range Kinds {
		x.Add(k, 5)
	}
	for _, stranger := range strangers {
		for k := range Kinds {
			if x.Part(k, stranger) != 0 || x.Part(stranger, k) != 0 {
				t.Errorf("%d is no kind, and with %s there are the Parts %d and %d", int(stranger), k.Name(), x.Part(k, stranger), x.Part(stranger, k))
			}
		}
		for _, other := range strangers {
			if got := x.Part(stranger, other); got != 0 {
				t.Errorf("Part(%d, %d) is %d", int(stranger), int(other), got)
			}
		}
	}
}

func TestResetP18_3(t *testing.T) {
	x := New()
	x.Reset()
	empty(t, x)
	for range 2 {
		for k := range Kinds {
			x.Add(k, int64(k)+1)
		}
		for _, size := range sizes() {
			x.Note(size)
		}
		x.Reset()
		empty(t, x)
		x.Note(2)
		x.Add(Fixed, 4)
		alike(t, x, &plain{added: map[Kind][]int64{Fixed: {4}}, noted: []int{2}})
	}
}

// How many there are that ask at the same time, and how often each does; both are powers of 2.
const workers, rounds = 8, 1 << 15

// together does something by several at the same time, and ends when all have.
func together(do func(worker int)) {
	start := make(chan struct{})
	var group sync.WaitGroup
	for worker := range workers {
		group.Go(func() {
			<-start
			do(worker)
		})
	}
	close(start)
	group.Wait()
}

func TestAddsAtTheSameTimeP18_3(t *testing.T) {
	x := New()
	together(func(worker int) {
		for round := range rounds {
			x.Add(Hits, 2)
			x.Add(Kind(round)%Kinds, 1)
			x.Add(Hits, -1)
		}
	})
	for k := range Kinds {
		want := int64(0)
		for round := range rounds {
			if Kind(round)%Kinds == k {
				want += workers
			}
		}
		if k == Hits {
			want += 2 * workers * rounds
		}
		if got := x.Get(k); got != want {
			t.Errorf("%s is %d, want %d", k.Name(), got, want)
		}
	}
}

// TestNotesAtTheSameTimeP18_3: all sizes from 0 on are noted, one behind the other, each by one alone, so that those who ask at the same time all have a size that is greater than what was.
func TestNotesAtTheSameTimeP18_3(t *testing.T) {
	x := New()
	var next atomic.Int64
	together(func(int) {
		for range rounds {
			size := int(next.Add(1) - 1)
			x.Note(size)
			if got := x.Most(); got < int64(size) {
				t.Errorf("behind Note(%d) Most is %d", size, got)
			}
		}
	})
	want := []int64{1}
	for n := int64(1); n < workers*rounds; n *= 2 {
		want = append(want, n)
	}
	if got := x.Bars(); !slices.Equal(got, want) || x.Most() != workers*rounds-1 {
		t.Errorf("Bars is %v, Most %d; want %v, %d", got, x.Most(), want, workers*rounds-1)
	}
}

func TestNotesOfOneSizeAtTheSameTimeP18_3(t *testing.T) {
	x := New()
	together(func(int) {
		for range rounds {
			x.Note(1)
		}
	})
	if got := x.Bars(); !slices.Equal(got, []int64{0, workers * rounds}) || x.Most() != 1 {
		t.Errorf("Bars is %v, Most %d", got, x.Most())
	}
}

// TestLimitOfSeveralP18_1: a count that several bring to the limit at the same time never is told as more, or as less than it was.
func TestLimitOfSeveralP18_1(t *testing.T) {
	x := New()
	together(func(worker int) {
		was := int64(0)
		for round := range rounds {
			switch {
			case worker == 0:
				now := x.Get(Batches)
				if now < was || now > top {
					t.Errorf("the count is %d behind %d", now, was)
				}
				was = now
			case round < rounds/2:
				x.Add(Batches, top/int64(2*rounds*workers))
			default:
				x.Add(Batches, math.MaxInt64)
			}
		}
	})
	if got := x.Get(Batches); got != top {
		t.Errorf("the count is %d", got)
	}
}

// TestAllCallsAtTheSameTimeP1: they end, and tell what may be.
func TestAllCallsAtTheSameTimeP1(t *testing.T) {
	x := New()
	var resets atomic.Int64
	together(func(worker int) {
		for round := range rounds / 32 {
			x.Add(Reads, 1)
			x.Note(round)
			if worker == 0 && round%100 == 99 {
				x.Reset()
				resets.Add(1)
			}
			if n := x.Get(Reads); n < 0 || n > workers*rounds {
				t.Errorf("the count is %d", n)
			}
			if n := x.Part(Reads, Writes); n != 0 && n != 1000 {
				t.Errorf("Part is %d", n)
			}
			if l := x.Bars(); len(l) > 0 && l[len(l)-1] == 0 {
				t.Errorf("Bars is %v", l)
			}
			if n := x.Most(); n < 0 || n >= rounds {
				t.Errorf("Most is %d", n)
			}
		}
	})
	if resets.Load() == 0 {
		t.Error("there was no Reset")
	}
	x.Reset()
	empty(t, x)
}

func TestNilTallyP1(t *testing.T) {
	var x *Tally
	empty(t, x)
	for _, k := range append([]Kind{Reads, Hits, Ahead}, strangers...) {
		for _, n := range []int64{math.MinInt64, -1, 0, 1, math.MaxInt64} {
			x.Add(k, n)
		}
		if got := x.Get(k); got != 0 {
			t.Errorf("Get(%d) of a nil tally is %d", int(k), got)
		}
		if a, b := x.Part(k, Hits), x.Part(Hits, k); a != 0 || b != 0 {
			t.Errorf("Parts with %d of a nil tally are %d, %d", int(k), a, b)
		}
	}
	for _, size := range sizes() {
		x.Note(size)
	}
	x.Reset()
	empty(t, x)
}

// TestTallyThatNewDidNotMakeP1: it has counted nothing, and counts.
func TestTallyThatNewDidNotMakeP1(t *testing.T) {
	x := new(Tally)
	empty(t, x)
	x.Add(Small, 2)
	x.Note(3)
	alike(t, x, &plain{added: map[Kind][]int64{Small: {2}}, noted: []int{3}})
}

func TestTalliesApartP2(t *testing.T) {
	one, two := New(), New()
	one.Add(Hits, 3)
	one.Note(9)
	empty(t, two)
	two.Add(Hits, 1)
	two.Note(2)
	one.Reset()
	empty(t, one)
	alike(t, two, &plain{added: map[Kind][]int64{Hits: {1}}, noted: []int{2}})
}

func TestLongScripts(t *testing.T) {
	for seed := range int64(30) {
		random := rand.New(rand.NewSource(seed))
		x, p := New(), newPlain()
		for range 150 {
			switch random.Intn(20) {
			case 0:
				x.Reset()
				p = newPlain()
			case 1, 2, 3, 4, 5, 6, 7:
				size := int(random.Uint64()) >> random.Intn(64)
				x.Note(size)
				p.noted = append(p.noted, size)
			default:
				k, n := Kind(random.Intn(11)-1), int64(random.Uint64())>>random.Intn(64)
				x.Add(k, n)
				p.added[k] = append(p.added[k], n)
			}
			alike(t, x, p)
		}
	}
}
