package geom

import (
	"math"
	"slices"
	"sync"
	"testing"

	"trunnion/api"
)

// ints are numbers of all sizes: those about the edges of members, stripes, blocks and sectors, and the least and greatest ones.
var ints = []int{math.MinInt, math.MinInt + 1, -1 << 40, -1 << 32, -33, -5, -2, -1, 0, 1, 2, 3, 4, 5, 30, 31, 32, 33, 63, 64, 65, 99, 100, 163, 164, 1919, 1920, 1921, 1 << 32, 1<<32 + 1, 1 << 40, math.MaxInt - 1, math.MaxInt}

// good is the chapter's sentence, with the limits as DOC.md writes them.
func good(g Geometry) bool {
	if g.Members < 4 {
		return false
	}
	if g.Members > 32 {
		return false
	}
	return g.Stripes >= 1 && g.Stripes <= 64
}

// allGood are all geometries that are good.
func allGood() []Geometry {
	var all []Geometry
	for members := 4; members <= 32; members++ {
		for stripes := 1; stripes <= 64; stripes++ {
			all = append(all, Geometry{members, stripes})
		}
	}
	return all
}

// someGood are good geometries, those at the edges among them.
func someGood() []Geometry {
	var some []Geometry
	for _, members := range []int{4, 5, 6, 7, 8, 13, 31, 32} {
		for _, stripes := range []int{1, 2, 3, 5, 8, 9, 33, 63, 64} {
			some = append(some, Geometry{members, stripes})
		}
	}
	return some
}

// bad are geometries that aren't good.
func bad() []Geometry {
	var all []Geometry
	for _, members := range ints {
		for _, stripes := range ints {
			if g := (Geometry{members, stripes}); !good(g) {
				all = append(all, g)
			}
		}
	}
	return all
}

// layout is the members of a stripe's columns, by the chapter's words: P is put, Q on the next member, then the data columns, step by step.
func layout(n, t int) []int {
	for t >= n {
		t -= n
	}
	k := n - 2
	row := make([]int, n)
	at := n - 1 - t
	next := func() {
		at++
		if at == n {
			at = 0
		}
	}
	row[k] = at
	next()
	row[k+1] = at
	for c := 0; c < k; c++ {
		next()
		row[c] = at
	}
	return row
}

func TestGoodP9_1(t *testing.T) {
	for _, x := range []struct {
		g    Geometry
		good bool
	}{
		{Geometry{4, 1}, true},
		{Geometry{4, 64}, true},
		{Geometry{32, 1}, true},
		{Geometry{32, 64}, true},
		{Geometry{5, 7}, true},
		{Geometry{}, false},
		{Geometry{3, 1}, false},
		{Geometry{33, 1}, false},
		{Geometry{4, 0}, false},
		{Geometry{4, 65}, false},
		{Geometry{4, -1}, false},
		{Geometry{-4, 1}, false},
		{Geometry{3, 65}, false},
		{Geometry{math.MinInt, math.MaxInt}, false},
		{Geometry{math.MaxInt, math.MinInt}, false},
		{Geometry{1<<32 + 4, 1}, false},
		{Geometry{4, 1<<32 + 1}, false},
	} {
		if x.g.Good() != x.good {
			t.Errorf("%v: good is %t", x.g, x.g.Good())
		}
	}
	for members := -70; members <= 70; members++ {
		for stripes := -70; stripes <= 70; stripes++ {
			if g := (Geometry{members, stripes}); g.Good() != good(g) {
				t.Errorf("%v: good is %t", g, g.Good())
			}
		}
	}
}

func TestSizesP9_1(t *testing.T) {
	for _, g := range allGood() {
		blocks := 0
		for range g.Stripes {
			blocks += g.Members - 2
		}
		if g.Data() != g.Members-2 || g.Blocks() != blocks || g.Sectors() != 100+g.Stripes {
			t.Errorf("%v: %d, %d, %d", g, g.Data(), g.Blocks(), g.Sectors())
		}
	}
}

func TestSizesOfAGeometryThatIsNotGoodP9_1(t *testing.T) {
	for _, g := range bad() {
		if g.Good() || g.Data() != 0 || g.Blocks() != 0 || g.Sectors() != 0 {
			t.Errorf("%v: %t, %d, %d, %d", g, g.Good(), g.Data(), g.Blocks(), g.Sectors())
		}
	}
}

func TestFindAndBlockP9_2(t *testing.T) {
	for _, g := range allGood() {
		block := 0
		for stripe := range g.Stripes {
			for column := range g.Members - 2 {
				if s, c, e := g.Find(block); s != stripe || c != column || e != api.OK {
					t.Fatalf("%v: the block %d is found at %d, %d: %v", g, block, s, c, e)
				}
				if b, e := g.Block(stripe, column); b != block || e != api.OK {
					t.Fatalf("%v: at %d, %d is the block %d: %v", g, stripe, column, b, e)
				}
				block++
			}
		}
	}
}

func TestFindOfNoBlockP9_2(t *testing.T) {
	for _, g := range someGood() {
		blocks := (g.Members - 2) * g.Stripes
		for _, block := range append([]int{blocks - 1, blocks, blocks + 1, g.Members * g.Stripes}, ints...) {
			s, c, e := g.Find(block)
			if block >= 0 && block < blocks {
				if e != api.OK {
					t.Errorf("%v: the block %d: %v", g, block, e)
				}
			} else if s != 0 || c != 0 || e != api.ErrRange {
				t.Errorf("%v: the block %d: %d, %d, %v", g, block, s, c, e)
			}
		}
	}
}

// about are the numbers that a call with an end is asked with.
func about(end int) []int {
	return append([]int{end - 3, end - 2, end - 1, end, end + 1}, ints...)
}

func TestBlockOfNoColumnP9_2(t *testing.T) {
	for _, g := range someGood() {
		for _, stripe := range about(g.Stripes) {
			for _, column := range about(g.Members) {
				there := stripe >= 0 && stripe < g.Stripes && column >= 0 && column < g.Members-2
				b, e := g.Block(stripe, column)
				if there != (e == api.OK) || !there && (b != 0 || e != api.ErrRange) {
					t.Errorf("%v at %d, %d: %d, %v", g, stripe, column, b, e)
				}
			}
		}
	}
}

func TestExamplesP9_3(t *testing.T) {
	g := Geometry{5, 2}
	for stripe, want := range [][]int{{1, 2, 3, 4, 0}, {0, 1, 2, 3, 4}} {
		if row, e := g.Row(stripe); !slices.Equal(row, want) || e != api.OK {
			t.Errorf("the stripe %d lies on %v: %v", stripe, row, e)
		}
	}
	for _, x := range []struct{ stripe, column, member int }{
		{0, 3, 4}, {0, 4, 0}, {0, 0, 1}, {0, 1, 2}, {0, 2, 3},
		{1, 3, 3}, {1, 4, 4}, {1, 0, 0}, {1, 1, 1}, {1, 2, 2},
	} {
		if m, e := g.Member(x.stripe, x.column); m != x.member || e != api.OK {
			t.Errorf("the column %d of the stripe %d lies on %d: %v", x.column, x.stripe, m, e)
		}
		if c, e := g.Column(x.stripe, x.member); c != x.column || e != api.OK {
			t.Errorf("of the stripe %d the column %d lies on %d: %v", x.stripe, c, x.member, e)
		}
	}
}

func TestWhereStripesLieP9_3(t *testing.T) {
	for _, g := range allGood() {
		for stripe := range g.Stripes {
			want := layout(g.Members, stripe)
			if row, e := g.Row(stripe); !slices.Equal(row, want) || e != api.OK {
				t.Fatalf("%v: the stripe %d lies on %v: %v", g, stripe, row, e)
			}
			for column, member := range want {
				if m, e := g.Member(stripe, column); m != member || e != api.OK {
					t.Fatalf("%v: the column %d of the stripe %d lies on %d: %v", g, column, stripe, m, e)
				}
				if c, e := g.Column(stripe, member); c != column || e != api.OK {
					t.Fatalf("%v: of the stripe %d the column %d lies on %d: %v", g, stripe, c, member, e)
				}
			}
			if at, e := g.Sector(stripe); at != 100+stripe || e != api.OK {
				t.Fatalf("%v: the stripe %d stands at %d: %v", g, stripe, at, e)
			}
		}
	}
}

func TestNoStripeOrColumnP9_3(t *testing.T) {
	for _, g := range someGood() {
		for _, stripe := range about(g.Stripes) {
			in := stripe >= 0 && stripe < g.Stripes
			if row, e := g.Row(stripe); in != (e == api.OK) || !in && (len(row) != 0 || e != api.ErrRange) {
				t.Errorf("%v: the stripe %d lies on %v: %v", g, stripe, row, e)
			}
			if at, e := g.Sector(stripe); in != (e == api.OK) || !in && (at != 0 || e != api.ErrRange) {
				t.Errorf("%v: the stripe %d stands at %d: %v", g, stripe, at, e)
			}
			for _, other := range about(g.Members) {
				there := in && other >= 0 && other < g.Members
				if m, e := g.Member(stripe, other); there != (e == api.OK) || !there && (m != 0 || e != api.ErrRange) {
					t.Errorf("%v: the column %d of the stripe %d lies on %d: %v", g, other, stripe, m, e)
				}
				if c, e := g.Column(stripe, other); there != (e == api.OK) || !there && (c != 0 || e != api.ErrRange) {
					t.Errorf("%v: of the stripe %d the column %d lies on %d: %v", g, stripe, c, other, e)
				}
			}
		}
	}
}

// stripesOf are those of some blocks, block by block.
func stripesOf(g Geometry, first, count int) []int {
	var found []int
	for stripe := range g.Stripes {
		for column := range g.Members - 2 {
			block := stripe*(g.Members-2) + column
			if block >= first && block < first+count && !slices.Contains(found, stripe) {
				found = append(found, stripe)
			}
		}
	}
	return found
}

func TestTouchedP9_4(t *testing.T) {
	for _, g := range []Geometry{{4, 1}, {4, 2}, {4, 9}, {5, 1}, {5, 7}, {6, 5}, {9, 4}, {32, 1}, {32, 2}} {
		blocks := g.Blocks()
		for first := -2; first <= blocks+2; first++ {
			for count := -2; count <= blocks+3; count++ {
				got, e := g.Touched(first, count)
				if first < 0 || count < 0 || first+count > blocks {
					if len(got) != 0 || e != api.ErrRange {
						t.Errorf("%v: %d blocks from %d on: %v, %v", g, count, first, got, e)
					}
				} else if !slices.Equal(got, stripesOf(g, first, count)) || e != api.OK {
					t.Errorf("%v: %d blocks from %d on: %v, %v", g, count, first, got, e)
				}
			}
		}
	}
}

func TestTouchedOfMostP9_4(t *testing.T) {
	g := Geometry{32, 64}
	for _, x := range []struct {
		first, count, from, to int
		e                      api.Errno
	}{
		{0, 1920, 0, 64, api.OK},
		{1, 1919, 0, 64, api.OK},
		{29, 2, 0, 2, api.OK},
		{30, 30, 1, 2, api.OK},
		{30, 31, 1, 3, api.OK},
		{1919, 1, 63, 64, api.OK},
		{1920, 0, 0, 0, api.OK},
		{0, 0, 0, 0, api.OK},
		{29, 0, 0, 0, api.OK},
		{1921, 0, 0, 0, api.ErrRange},
		{-1, 0, 0, 0, api.ErrRange},
		{1920, 1, 0, 0, api.ErrRange},
		{1, 1920, 0, 0, api.ErrRange},
		{0, 1921, 0, 0, api.ErrRange},
	} {
		var want []int
		for stripe := x.from; stripe < x.to; stripe++ {
			want = append(want, stripe)
		}
		if got, e := g.Touched(x.first, x.count); !slices.Equal(got, want) || e != x.e {
			t.Errorf("%d blocks from %d on: %v, %v", x.count, x.first, got, e)
		}
	}
}

func TestTouchedAtAllNumbersP9_4(t *testing.T) {
	for _, g := range []Geometry{{4, 1}, {5, 7}, {32, 64}} {
		for _, first := range ints {
			for _, count := range ints {
				there := count >= 0 && first >= 0 && first <= g.Blocks() && count <= g.Blocks()-first
				got, e := g.Touched(first, count)
				if there != (e == api.OK) || !there && (len(got) != 0 || e != api.ErrRange) {
					t.Errorf("%v: %d blocks from %d on: %v, %v", g, count, first, got, e)
				}
			}
		}
	}
}

func TestFormIsAheadOfAllOtherErrors(t *testing.T) {
	for _, g := range bad() {
		for _, a := range []int{math.MinInt, -1, 0, 1, 100, math.MaxInt} {
			if s, c, e := g.Find(a); s != 0 || c != 0 || e != api.ErrForm {
				t.Fatalf("P9.2: %v: the block %d: %d, %d, %v", g, a, s, c, e)
			}
			if row, e := g.Row(a); len(row) != 0 || e != api.ErrForm {
				t.Fatalf("P9.3: %v: the row %d: %v, %v", g, a, row, e)
			}
			if at, e := g.Sector(a); at != 0 || e != api.ErrForm {
				t.Fatalf("P9.3: %v: the stripe %d stands at %d: %v", g, a, at, e)
			}
			for _, b := range []int{math.MinInt, -1, 0, 1, 100, math.MaxInt} {
				for i, call := range []func(int, int) (int, api.Errno){g.Block, g.Member, g.Column} {
					if n, e := call(a, b); n != 0 || e != api.ErrForm {
						t.Fatalf("P9.2, P9.3: %v: the call %d with %d, %d: %d, %v", g, i, a, b, n, e)
					}
				}
				if l, e := g.Touched(a, b); len(l) != 0 || e != api.ErrForm {
					t.Fatalf("P9.4: %v: %d blocks from %d on: %v, %v", g, b, a, l, e)
				}
			}
		}
	}
}

func TestAnswersAreNewMemory(t *testing.T) {
	g := Geometry{5, 7}
	for name, call := range map[string]func() ([]int, api.Errno){
		"Row":     func() ([]int, api.Errno) { return g.Row(2) },
		"Touched": func() ([]int, api.Errno) { return g.Touched(2, 9) },
	} {
		first, _ := call()
		want := slices.Clone(first)
		second, _ := call()
		all := first[:cap(first)]
		for i := range all {
			all[i] = -7
		}
		if !slices.Equal(second, want) {
			t.Errorf("%s: two answers share memory", name)
		}
		if third, _ := call(); !slices.Equal(third, want) {
			t.Errorf("%s: an answer was kept", name)
		}
	}
}

func TestCallsAtTheSameTimeP2(t *testing.T) {
	var group sync.WaitGroup
	for i := range 8 {
		group.Go(func() {
			g := Geometry{4 + i, 8 + i}
			for stripe := range g.Stripes {
				if row, e := g.Row(stripe); !slices.Equal(row, layout(g.Members, stripe)) || e != api.OK {
					t.Errorf("%v: the stripe %d lies on %v: %v", g, stripe, row, e)
				}
			}
			if got, e := g.Touched(1, g.Blocks()-1); len(got) != g.Stripes || e != api.OK {
				t.Errorf("%v: %v, %v", g, got, e)
			}
		})
	}
	group.Wait()
}
