package engine

import (
	"fmt"
	"math"
	"math/rand"
	"slices"
	"strings"
	"testing"

	"trunnion/api"
	"trunnion/bay"
	"trunnion/geom"
	"trunnion/label"
	"trunnion/member"
	"trunnion/naive"
	"trunnion/record"
	"trunnion/syndrome"
	"trunnion/tally"
)

// ints are numbers of all sizes: those about the edges of blocks and of what an engine keeps, and the least and greatest ones.
var ints = []int{math.MinInt, math.MinInt + 1, -1 << 32, -65, -2, -1, 0, 1, 2, 3, 8, 9, 23, 24, 25, 62, 63, 64, 65, 255, 256, 257, 1<<16 - 1, 1 << 16, 1<<16 + 1, 1 << 32, 1<<32 + 1, 1 << 40, math.MaxInt - 1, math.MaxInt}

// plain are options of an engine that reads nothing ahead, and has place enough for all that a test does.
var plain = Options{Queue: 256, Age: 65536, Rows: 64, Dear: 0, Ahead: 0}

// full is a block's bytes, all of them alike.
func full(c byte) string {
	return strings.Repeat(string([]byte{c}), 64)
}

// byteOf is what a block of a filled array is made of.
func byteOf(block int) byte {
	return byte(1 + 37*block%251)
}

// answers holds what a call answered.
func answers(t testing.TB, what string, e, want api.Errno) {
	t.Helper()
	if e != want {
		t.Errorf("%s: %d, want %d", what, e, want)
	}
}

// opened is the array of a bay.
func opened(t testing.TB, b *bay.Bay) *naive.Array {
	t.Helper()
	a, e := naive.Open(b)
	if e != api.OK {
		t.Fatalf("Open: %d", e)
	}
	return a
}

// engineOf is an engine of an array.
func engineOf(t testing.TB, a *naive.Array, o Options) *Engine {
	t.Helper()
	x, e := New(a, o)
	if e != api.OK || x == nil {
		t.Fatalf("New(%v): %v, %d", o, x, e)
	}
	return x
}

// bayOf is a bay with a new array, all noughts.
func bayOf(t testing.TB, members, stripes int) *bay.Bay {
	t.Helper()
	b := bay.New(members, 100+stripes)
	if e := naive.Format(b, geom.Geometry{Members: members, Stripes: stripes}); e != api.OK {
		t.Fatalf("Format: %d", e)
	}
	return b
}

// filled is a bay with an array each block of which has its own bytes, and an engine of it; nothing is counted.
func filled(t testing.TB, members, stripes int, o Options) (*bay.Bay, *Engine) {
	t.Helper()
	b := bayOf(t, members, stripes)
	a := opened(t, b)
	for stripe := range stripes {
		var data []string
		for column := range members - 2 {
			data = append(data, full(byteOf(stripe*(members-2)+column)))
		}
		p, q, _ := syndrome.Make(data)
		columns := map[int]string{}
		for i, s := range append(data, p, q) {
			columns[i] = s
		}
		answers(t, "Store", a.Store([]naive.Change{{Stripe: stripe, Columns: columns}}), api.OK)
	}
	a.Tally().Reset()
	return b, engineOf(t, a, o)
}

// reads holds what a block is read as.
func reads(t testing.TB, x *Engine, block int, want string) {
	t.Helper()
	if s, e := x.Read(block); s != want || e != api.OK {
		t.Errorf("Read(%d): %q, %d; want %q", block, s, e, want)
	}
}

// readsOld holds that blocks are read as a filled array has them.
func readsOld(t testing.TB, x *Engine, blocks ...int) {
	t.Helper()
	for _, i := range blocks {
		reads(t, x, i, full(byteOf(i)))
	}
}

// has holds what the array itself has of a block; nothing more is counted by it.
func has(t testing.TB, x *Engine, block int, want string) {
	t.Helper()
	l := x.Array().Label()
	stripe, column, _ := l.Find(block)
	if s, e := x.Array().Column(stripe, column); s != want || e != api.OK {
		t.Errorf("the array has of the block %d: %q, %d; want %q", block, s, e, want)
	}
}

// writes writes blocks, each of them made of one byte.
func writes(t testing.TB, x *Engine, c byte, blocks ...int) {
	t.Helper()
	for _, i := range blocks {
		answers(t, fmt.Sprintf("Write(%d)", i), x.Write(i, full(c)), api.OK)
	}
}

// dispatches holds which blocks are dispatched, one after the other.
func dispatches(t testing.TB, x *Engine, blocks ...int) {
	t.Helper()
	for _, want := range blocks {
		if i, e := x.Dispatch(); i != want || e != api.OK {
			t.Errorf("Dispatch: %d, %d; want %d", i, e, want)
		}
	}
}

// dirties writes blocks, and dispatches all that waits.
func dirties(t testing.TB, x *Engine, c byte, blocks ...int) {
	t.Helper()
	writes(t, x, c, blocks...)
	for n, _ := x.Pending(); n > 0; n, _ = x.Pending() {
		if _, e := x.Dispatch(); e != api.OK {
			t.Fatalf("Dispatch: %d", e)
		}
	}
}

// settles holds what a Settle answers.
func settles(t testing.TB, x *Engine, want int, err api.Errno) {
	t.Helper()
	if n, e := x.Settle(); n != want || e != err {
		t.Errorf("Settle: %d, %d; want %d, %d", n, e, want, err)
	}
}

// pends holds how many blocks wait, and how many columns are dirty.
func pends(t testing.TB, x *Engine, queued, dirty int) {
	t.Helper()
	if n, d := x.Pending(); n != queued || d != dirty {
		t.Errorf("Pending: %d, %d; want %d, %d", n, d, queued, dirty)
	}
}

// counts are those of a tally by their kinds; a kind that isn't there is 0.
type counts map[tally.Kind]int64

// counted holds all counts of the array's tally.
func counted(t testing.TB, what string, x *Engine, want counts) {
	t.Helper()
	for k := range tally.Kinds {
		if n := x.Array().Tally().Get(k); n != want[k] {
			t.Errorf("%s: %s %d, want %d", what, k.Name(), n, want[k])
		}
	}
}

// tallied is all that a tally tells.
func tallied(x *tally.Tally) string {
	var all []int64
	for k := range tally.Kinds {
		all = append(all, x.Get(k))
	}
	return fmt.Sprint(all, x.Bars(), x.Most())
}

// disk is all that a member is: what it has, what waits, whether it is dead.
func disk(m *member.Member) string {
	var all []string
	for at := range m.Size() {
		s, _ := m.Read(at)
		all = append(all, s)
	}
	return fmt.Sprint(m.Dead(), m.Waiting(), strings.Join(all, ""))
}

// disks are all members of a bay.
func disks(b *bay.Bay) []string {
	var all []string
	for i := range b.Size() {
		all = append(all, disk(b.Member(i)))
	}
	return all
}

// read is how many sectors of a bay's members were read till now.
func read(b *bay.Bay) int64 {
	n := int64(0)
	for i := range b.Size() {
		n += b.Member(i).Counts().Reads
	}
	return n
}

// costs holds how many sectors are read, and how many steps made, by a call.
func costs(t testing.TB, what string, b *bay.Bay, sectors, steps int64, call func()) {
	t.Helper()
	r, s := read(b), b.Steps()
	call()
	if r, s = read(b)-r, b.Steps()-s; r != sectors || s != steps {
		t.Errorf("%s: %d sectors read, %d steps; want %d, %d", what, r, s, sectors, steps)
	}
}

// batchSteps is how many steps a batch of so many writes makes, of so many live members.
func batchSteps(live, n int) int64 {
	head := (16 + 4*n + 63) / 64
	return int64(live*(head+n+1) + live*2 + n + live)
}

// ends gives members an end that the label knows of.
func ends(t testing.TB, x *Engine, members ...int) {
	t.Helper()
	for _, i := range members {
		answers(t, "Fail", x.Array().Fail(i), api.OK)
	}
}

// kills gives members an end that nobody is told of.
func kills(b *bay.Bay, members ...int) {
	for _, i := range members {
		b.Member(i).Fail()
	}
}

func TestExample(t *testing.T) {
	x := engineOf(t, opened(t, bayOf(t, 5, 8)), Options{4, 8, 4, 1, 4})
	a, noughts := full('a'), full(0)
	answers(t, "Write(0, a)", x.Write(0, a), api.OK)
	reads(t, x, 0, a)
	if s, e := x.Array().Read(0); s != noughts || e != api.OK {
		t.Errorf("the array's Read(0): %q, %d", s, e)
	}
	answers(t, "Flush", x.Flush(), api.OK)
	if s, e := x.Array().Read(0); s != a || e != api.OK {
		t.Errorf("the array's Read(0): %q, %d", s, e)
	}
}

// refuses holds that all calls of an engine answer one error, whatever they are asked, and nothing beside it.
func refuses(t testing.TB, what string, x *Engine, want api.Errno) {
	t.Helper()
	for _, block := range []int{0, 1, -1, 1 << 20} {
		if s, e := x.Read(block); s != "" || e != want {
			t.Errorf("%s: Read(%d): %q, %d; want %d", what, block, s, e, want)
		}
		answers(t, what+": Write", x.Write(block, full('x')), want)
		answers(t, what+": Write", x.Write(block, "x"), want)
	}
	if n, e := x.Dispatch(); n != 0 || e != want {
		t.Errorf("%s: Dispatch: %d, %d; want %d", what, n, e, want)
	}
	settles(t, x, 0, want)
	answers(t, what+": Flush", x.Flush(), want)
}

func TestNilEngineP1(t *testing.T) {
	var x *Engine
	refuses(t, "nil", x, api.ErrNil)
	if x.Array() != nil {
		t.Error("a nil engine has an array")
	}
	pends(t, x, 0, 0)
}

// TestEngineThatNewDidNotMakeP1: it has nothing, and nothing panics.
func TestEngineThatNewDidNotMakeP1(t *testing.T) {
	x := &Engine{}
	for _, block := range []int{-1, 0, 1} {
		if s, e := x.Read(block); s != "" || e == api.OK {
			t.Errorf("Read(%d): %q, %d", block, s, e)
		}
		if x.Write(block, full('x')) == api.OK {
			t.Errorf("Write(%d) is OK", block)
		}
	}
	if n, e := x.Dispatch(); n != 0 || e != api.ErrNone {
		t.Errorf("Dispatch: %d, %d", n, e)
	}
	settles(t, x, 0, api.OK)
	answers(t, "Flush", x.Flush(), api.OK)
	pends(t, x, 0, 0)
	if y, e := New(&naive.Array{}, plain); y != nil || e == api.OK {
		t.Errorf("New of an array that has nothing: %v, %d", y, e)
	}
}

// TestAllNumbersP1: each int may be handed in, wherever one may.
func TestAllNumbersP1(t *testing.T) {
	_, x := filled(t, 5, 3, Options{Queue: 2, Age: 3, Rows: 2, Dear: 1, Ahead: 4})
	for _, block := range ints {
		want := api.ErrRange
		if block >= 0 && block < 9 {
			want = api.OK
			readsOld(t, x, block)
		}
		_, e := x.Read(block)
		answers(t, fmt.Sprintf("Read(%d)", block), e, want)
		answers(t, fmt.Sprintf("Write(%d)", block), x.Write(block, full('w')), want)
	}
	answers(t, "Flush", x.Flush(), api.OK)
}

// TestApartP2: what is done to one engine is nothing to another one, or to its array.
func TestApartP2(t *testing.T) {
	one, x := filled(t, 5, 3, plain)
	two, y := filled(t, 5, 3, plain)
	old, told := disks(two), tallied(y.Array().Tally())
	dirties(t, x, 'x', 0, 1)
	writes(t, x, 'w', 2)
	readsOld(t, x, 4)
	answers(t, "Flush", x.Flush(), api.OK)
	one.Cut(0)
	x.Read(5)
	if !x.Array().Down() || y.Array().Down() || tallied(y.Array().Tally()) != told || !slices.Equal(disks(two), old) {
		t.Error("engines have to do with one another")
	}
	pends(t, y, 0, 0)
	readsOld(t, y, 0, 1, 2, 3)
}

// TestDownP26: ErrPower is ahead of all other errors, also with power again; the array and what is pending are told all the same.
func TestDownP26(t *testing.T) {
	b, x := filled(t, 5, 3, plain)
	dirties(t, x, 'd', 1, 2, 4)
	writes(t, x, 'q', 0, 4)
	readsOld(t, x, 5)
	b.Cut(0)
	if _, e := x.Read(8); e != api.ErrPower {
		t.Errorf("Read without power: %d", e)
	}
	for range 2 {
		told, old := tallied(x.Array().Tally()), disks(b)
		refuses(t, "down", x, api.ErrPower)
		pends(t, x, 2, 3)
		if x.Array() == nil || !x.Array().Down() || tallied(x.Array().Tally()) != told || !slices.Equal(disks(b), old) {
			t.Error("an engine whose array is down has done something")
		}
		for _, o := range []Options{plain, {}, {Queue: -1}} {
			if y, e := New(x.Array(), o); y != nil || e != api.ErrPower {
				t.Errorf("New of an array that is down: %v, %d", y, e)
			}
		}
		b.Crash()
	}
}

// TestDownWithNothingP26: where there would be nothing to do, it is ErrPower too.
func TestDownWithNothingP26(t *testing.T) {
	b, x := filled(t, 5, 3, plain)
	b.Cut(0)
	x.Array().Read(0)
	refuses(t, "down", x, api.ErrPower)
	pends(t, x, 0, 0)
}

// TestNewErrorsP26_1: which options may be.
func TestNewErrorsP26_1(t *testing.T) {
	_, x := filled(t, 5, 3, plain)
	set := map[string]func(o *Options, n int) bool{
		"Queue": func(o *Options, n int) bool { o.Queue = n; return n >= 1 && n <= 256 },
		"Age":   func(o *Options, n int) bool { o.Age = n; return n >= 1 && n <= 65536 },
		"Rows":  func(o *Options, n int) bool { o.Rows = n; return n >= 3 && n <= 64 },
		"Dear":  func(o *Options, n int) bool { o.Dear = n; return n >= 0 && n <= 3 },
		"Ahead": func(o *Options, n int) bool { o.Ahead = n; return n >= 0 && n <= 64 },
	}
	for name, change := range set {
		for _, n := range ints {
			o := Options{Queue: 4, Age: 8, Rows: 4, Dear: 2, Ahead: 4}
			want := api.ErrArg
			if change(&o, n) {
				want = api.OK
			}
			y, e := New(x.Array(), o)
			if e != want || (y == nil) != (e != api.OK) {
				t.Errorf("New with %s %d: %v, %d; want %d", name, n, y, e, want)
			}
			if y, e := New(nil, o); y != nil || e != api.ErrNil {
				t.Errorf("New of nil: %v, %d", y, e)
			}
		}
	}
	for _, o := range []Options{{1, 1, 1, 1, 0}, {1, 1, 64, 64, 0}, {1, 1, 0, 0, 0}, {1, 1, 0, -1, 0}, {1, 1, math.MinInt, math.MaxInt, 0}, {}} {
		if y, e := New(x.Array(), o); y != nil || e != api.ErrArg {
			t.Errorf("New(%v): %v, %d", o, y, e)
		}
	}
	for _, o := range []Options{{1, 1, 1, 0, 0}, {256, 65536, 64, 63, 64}} {
		if y, e := New(x.Array(), o); y == nil || e != api.OK {
			t.Errorf("New(%v): %v, %d", o, y, e)
		}
	}
}

// TestNewDoesNothingP26_1: an engine has nothing at first, and its array is the one that was handed in.
func TestNewDoesNothingP26_1(t *testing.T) {
	b, x := filled(t, 5, 3, plain)
	a := x.Array()
	told := tallied(a.Tally())
	costs(t, "New", b, 0, 0, func() { x = engineOf(t, a, plain) })
	if x.Array() != a || tallied(a.Tally()) != told {
		t.Error("New has another array, or counts something")
	}
	pends(t, x, 0, 0)
	settles(t, x, 0, api.OK)
	if n, e := x.Dispatch(); n != 0 || e != api.ErrNone {
		t.Errorf("Dispatch: %d, %d", n, e)
	}
}

// TestNewQueueP26_1: so many blocks are taken ahead of the first one that goes to the cache.
func TestNewQueueP26_1(t *testing.T) {
	for _, n := range []int{1, 2, 7, 255, 256} {
		o := plain
		o.Queue = n
		_, x := filled(t, 7, 64, o)
		for i := range n {
			writes(t, x, 'w', i)
			pends(t, x, i+1, 0)
		}
		writes(t, x, 'w', n)
		pends(t, x, n, 1)
	}
}

// TestNewAgeP26_1: a block goes ahead of others once so many went ahead of it.
func TestNewAgeP26_1(t *testing.T) {
	for _, c := range []struct {
		age, want int
	}{{1, 20}, {2, 20}, {3, 7}, {65536, 7}} {
		o := plain
		o.Age = c.age
		_, x := filled(t, 5, 8, o)
		writes(t, x, 'w', 20, 3)
		if c.age == 1 {
			dispatches(t, x, 3, 20)
			continue
		}
		dispatches(t, x, 3)
		writes(t, x, 'w', 5)
		dispatches(t, x, 5)
		writes(t, x, 'w', 7)
		dispatches(t, x, c.want)
	}
}

// missed is how many reads of blocks, one after the other, the cache has nothing for.
func missed(t testing.TB, x *Engine, blocks ...int) int64 {
	t.Helper()
	was := x.Array().Tally().Get(tally.Misses)
	readsOld(t, x, blocks...)
	return x.Array().Tally().Get(tally.Misses) - was
}

// TestNewRowsP26_1: so many stripes are kept.
func TestNewRowsP26_1(t *testing.T) {
	for _, rows := range []int{1, 2, 3, 63, 64} {
		o := plain
		o.Rows = rows
		_, x := filled(t, 4, 64, o)
		for stripe := range rows {
			if missed(t, x, 2*stripe) != 1 {
				t.Errorf("a new cache has the stripe %d", stripe)
			}
		}
		if n := missed(t, x, 0); n != 0 {
			t.Errorf("of %d rows the first one isn't kept", rows)
		}
		if rows == 64 {
			continue
		}
		if n := missed(t, x, 2*rows, 2*rows); n != 1 {
			t.Errorf("of %d rows one more isn't kept", rows)
		}
		n := int64(0)
		for stripe := range rows + 1 {
			_, ok := x.cache.Get(stripe, 0)
			if !ok {
				n++
			}
		}
		if n != 1 {
			t.Errorf("%d of %d stripes went for one", n, rows)
		}
	}
}

// TestNewDearP26_1: of so many stripes, those that were used again, none goes ahead of the others.
func TestNewDearP26_1(t *testing.T) {
	for dear, want := range []int64{2, 1, 0} {
		o := plain
		o.Rows, o.Dear = 3, dear
		_, x := filled(t, 5, 8, o)
		readsOld(t, x, 0, 3, 0, 3)
		// Of the stripes 0 and 1 those that aren't dear go for others.
		readsOld(t, x, 6, 9, 12)
		if n := missed(t, x, 3, 0); n != want {
			t.Errorf("with %d dear ones %d were missed, want %d", dear, n, want)
		}
	}
}

// TestNewAheadP26_1: no more than so many blocks are read ahead, but for the rest of a row; with 0 none.
func TestNewAheadP26_1(t *testing.T) {
	for _, c := range []struct {
		most int
		want []int64
	}{{0, []int64{0, 0, 0, 0, 0, 0}}, {1, []int64{0, 2, 2, 4, 4, 6}}, {2, []int64{0, 2, 4, 4, 6, 6}}, {4, []int64{0, 2, 6, 6, 6, 8}}, {64, []int64{0, 2, 6, 6, 6, 12}}} {
		o := plain
		o.Ahead = c.most
		_, x := filled(t, 4, 64, o)
		for i, want := range c.want {
			readsOld(t, x, i)
			if n := x.Array().Tally().Get(tally.Ahead); n != want {
				t.Errorf("most %d: behind the block %d: %d read ahead, want %d", c.most, i, n, want)
			}
		}
	}
}

func TestReadErrorsP26_2(t *testing.T) {
	b, x := filled(t, 5, 3, plain)
	costs(t, "Reads of no block", b, 0, 0, func() {
		for _, block := range []int{-1, 9, math.MinInt, math.MaxInt} {
			if s, e := x.Read(block); s != "" || e != api.ErrRange {
				t.Errorf("Read(%d): %q, %d", block, s, e)
			}
		}
	})
	counted(t, "Reads of no block", x, nil)
	ends(t, x, 0, 1, 2)
	if s, e := x.Read(0); s != "" || e != api.ErrFailed {
		t.Errorf("Read, and three are lost: %q, %d", s, e)
	}
	counted(t, "a Read that failed", x, counts{tally.Misses: 1})
	// Nothing of it is in the cache.
	if _, e := x.Read(0); e != api.ErrFailed {
		t.Errorf("Read, and three are lost: %d", e)
	}
	readsOld(t, x, 2)
	counted(t, "Reads", x, counts{tally.Misses: 3, tally.Reads: 1})
}

// TestReadOfQueueP26_2: what waits is read as it was written last, and nobody else is asked.
func TestReadOfQueueP26_2(t *testing.T) {
	b, x := filled(t, 5, 3, plain)
	writes(t, x, 'a', 4)
	writes(t, x, 'b', 4)
	costs(t, "Read of the queue", b, 0, 0, func() { reads(t, x, 4, full('b')) })
	counted(t, "Read of the queue", x, nil)
	// It is ahead of what the cache has.
	dispatches(t, x, 4)
	writes(t, x, 'c', 4)
	costs(t, "Read of the queue", b, 0, 0, func() { reads(t, x, 4, full('c')) })
	counted(t, "Read of the queue", x, nil)
	b.Cut(0)
	reads(t, x, 4, full('c'))
	if x.Array().Down() {
		t.Error("the array is down, and nothing of it was asked")
	}
}

// TestReadOfCacheP26_2: what the cache has, dirty or not, is a hit.
func TestReadOfCacheP26_2(t *testing.T) {
	b, x := filled(t, 5, 3, plain)
	dirties(t, x, 'd', 4)
	readsOld(t, x, 5)
	x.Array().Tally().Reset()
	b.Cut(0)
	costs(t, "Reads of the cache", b, 0, 0, func() {
		reads(t, x, 4, full('d'))
		readsOld(t, x, 5)
	})
	counted(t, "Reads of the cache", x, counts{tally.Hits: 2})
	if x.Array().Down() {
		t.Error("the array is down, and nothing of it was asked")
	}
}

// TestReadOfArrayP26_2: what is neither in the queue nor in the cache is read of the array, once.
func TestReadOfArrayP26_2(t *testing.T) {
	b, x := filled(t, 5, 3, plain)
	dirties(t, x, 'd', 4)
	writes(t, x, 'q', 3)
	costs(t, "Read of the array", b, 1, 0, func() { readsOld(t, x, 5) })
	counted(t, "Read of the array", x, counts{tally.Misses: 1, tally.Reads: 1})
	costs(t, "Read again", b, 0, 0, func() { readsOld(t, x, 5) })
	counted(t, "Read again", x, counts{tally.Misses: 1, tally.Reads: 1, tally.Hits: 1})
	// A lost column takes its whole stripe.
	kills(b, 0)
	l := x.Array().Label()
	m, _ := l.Member(0, 1)
	kills(b, m)
	costs(t, "Read of a lost column", b, 3, 0, func() { readsOld(t, x, 1) })
	counted(t, "Read of a lost column", x, counts{tally.Misses: 2, tally.Reads: 2, tally.Hits: 1})
}

// TestReadFillErrorP26_2: with no place in the cache a block is read all the same, time and again.
func TestReadFillErrorP26_2(t *testing.T) {
	o := plain
	o.Rows = 1
	_, x := filled(t, 5, 3, o)
	dirties(t, x, 'd', 0)
	readsOld(t, x, 4, 4)
	counted(t, "Reads beside a full cache", x, counts{tally.Misses: 2, tally.Reads: 2})
	reads(t, x, 0, full('d'))
	// The column beside it finds its place.
	readsOld(t, x, 1, 1)
	counted(t, "Reads beside a full cache", x, counts{tally.Misses: 3, tally.Reads: 3, tally.Hits: 2})
	pends(t, x, 0, 1)
}

// TestReadTouchesP26_2: a stripe that was read of is used; one of which the queue told isn't.
func TestReadTouchesP26_2(t *testing.T) {
	o := plain
	o.Rows = 2
	_, x := filled(t, 5, 8, o)
	readsOld(t, x, 0, 3, 0, 6)
	if missed(t, x, 0) != 0 || missed(t, x, 3) != 1 {
		t.Error("the stripe that was used last went ahead of the other one")
	}
	// Stripe 1 came last; by the queue stripe 0 isn't used.
	writes(t, x, 'q', 0)
	reads(t, x, 0, full('q'))
	if missed(t, x, 6) != 1 || missed(t, x, 3) != 0 {
		t.Error("a stripe was used by a block of the queue")
	}
}

// TestReadPowerP26_2: the error of a Read of the array is told.
func TestReadPowerP26_2(t *testing.T) {
	b, x := filled(t, 5, 3, plain)
	b.Cut(0)
	if s, e := x.Read(0); s != "" || e != api.ErrPower || !x.Array().Down() {
		t.Errorf("Read without power: %q, %d", s, e)
	}
	counted(t, "Read without power", x, counts{tally.Misses: 1})
}

// eager are options of an engine that reads ahead.
var eager = Options{Queue: 16, Age: 16, Rows: 64, Dear: 0, Ahead: 8}

// aheads holds how many blocks were read ahead.
func aheads(t testing.TB, what string, x *Engine, want int64) {
	t.Helper()
	if n := x.Array().Tally().Get(tally.Ahead); n != want {
		t.Errorf("%s: %d read ahead, want %d", what, n, want)
	}
}

// TestAheadP26_2: blocks that are asked for one behind the other are read ahead, and are hits then.
func TestAheadP26_2(t *testing.T) {
	b, x := filled(t, 5, 8, eager)
	costs(t, "the first one", b, 1, 0, func() { readsOld(t, x, 4) })
	// The window of 2 ends within the stripe 2, which is read to its end.
	costs(t, "the second one", b, 4, 0, func() { readsOld(t, x, 5) })
	counted(t, "two", x, counts{tally.Misses: 2, tally.Reads: 5, tally.Ahead: 3})
	costs(t, "the third one", b, 0, 0, func() { readsOld(t, x, 6) })
	costs(t, "the fourth one", b, 3, 0, func() { readsOld(t, x, 7) })
	counted(t, "four", x, counts{tally.Misses: 2, tally.Reads: 8, tally.Ahead: 6, tally.Hits: 2})
	costs(t, "one elsewhere", b, 1, 0, func() { readsOld(t, x, 20) })
	costs(t, "one that is at hand", b, 0, 0, func() { readsOld(t, x, 8) })
	counted(t, "six", x, counts{tally.Misses: 3, tally.Reads: 9, tally.Ahead: 6, tally.Hits: 3})
	// Up to the end of the array, and no further; what was told once isn't told again.
	readsOld(t, x, 22)
	costs(t, "the last but one", b, 0, 0, func() { readsOld(t, x, 22) })
	costs(t, "the last one", b, 1, 0, func() { readsOld(t, x, 23) })
	aheads(t, "the last one", x, 6)
}

// TestAheadNotesAllP26_2: blocks that were read of the queue, of the cache and of the array are all noted.
func TestAheadNotesAllP26_2(t *testing.T) {
	_, x := filled(t, 5, 8, eager)
	writes(t, x, 'q', 3)
	dirties(t, x, 'd', 4)
	writes(t, x, 'q', 3, 6)
	for i, c := range []struct {
		block int
		want  string
		ahead int64
	}{{3, full('q'), 0}, {4, full('d'), 3}, {5, full(byteOf(5)), 3}, {6, full('q'), 3}, {7, full(byteOf(7)), 6}} {
		reads(t, x, c.block, c.want)
		aheads(t, fmt.Sprint("read ", i), x, c.ahead)
	}
}

// TestAheadNotesOKP26_2: a block that couldn't be read isn't noted.
func TestAheadNotesOKP26_2(t *testing.T) {
	// With three lost, those that stand on the others are read.
	b, x := filled(t, 6, 6, eager)
	l := x.Array().Label()
	m, _ := l.Member(0, 1)
	n, _ := l.Member(0, 4)
	k, _ := l.Member(0, 5)
	kills(b, m, n, k)
	readsOld(t, x, 0)
	if _, e := x.Read(1); e != api.ErrFailed {
		t.Fatalf("Read(1): %d", e)
	}
	// Had it been noted, the next one would be the third one of a run.
	readsOld(t, x, 2)
	aheads(t, "none is behind the other", x, 0)
	readsOld(t, x, 3)
	if n := x.planner.Run(); n != 2 {
		t.Errorf("the run is %d, want 2", n)
	}
	// And what isn't there isn't noted either.
	x.Read(-1)
	x.Read(24)
	x.Read(4)
	if n := x.planner.Run(); n > 3 {
		t.Errorf("the run is %d", n)
	}
}

// TestAheadSkipsP26_2: neither what waits nor what the cache has is read.
func TestAheadSkipsP26_2(t *testing.T) {
	b, x := filled(t, 8, 8, eager)
	// Of the six blocks of the stripe 1 one waits, one is dirty, one was read.
	dirties(t, x, 'd', 7)
	writes(t, x, 'q', 9)
	readsOld(t, x, 10, 4)
	x.Array().Tally().Reset()
	// The window of 2 reaches to 8: 6 and all up to 11 are told.
	costs(t, "read ahead", b, 4, 0, func() { readsOld(t, x, 5) })
	counted(t, "read ahead", x, counts{tally.Misses: 1, tally.Reads: 4, tally.Ahead: 3})
	// What waited wasn't filled: nothing of it is known.
	if have, dirty := x.cache.Have(1); !slices.Equal(have.List(), []int{0, 1, 2, 4, 5}) || !slices.Equal(dirty.List(), []int{1}) || x.cache.Known(1).Has(1) {
		t.Errorf("the cache has %v, dirty %v", have.List(), dirty.List())
	}
	reads(t, x, 7, full('d'))
	reads(t, x, 9, full('q'))
}

// TestAheadTouchesP26_2: what the cache has already is used by that, since it is asked for it; it isn't asked for what waits.
func TestAheadTouchesP26_2(t *testing.T) {
	for _, waits := range []bool{false, true} {
		o := eager
		o.Rows = 4
		_, x := filled(t, 4, 8, o)
		// The stripe 1 is there whole, ahead of the stripe 5; then 0 and 1 of the stripe 0 tell 2 and 3.
		readsOld(t, x, 2)
		dirties(t, x, byteOf(3), 3)
		settles(t, x, 1, api.OK)
		readsOld(t, x, 10, 0)
		if waits {
			writes(t, x, 'w', 2, 3)
		}
		readsOld(t, x, 1)
		aheads(t, "all is at hand", x, 0)
		// For the stripes 7 and 3 there is one place.
		readsOld(t, x, 14, 6)
		first, second := x.cache.Known(1).Count(), x.cache.Known(5).Count()
		if waits != (first == 0) || waits != (second == 1) {
			t.Errorf("2 and 3 wait: %t; known of the stripe 1 are %d, of the stripe 5 %d", waits, first, second)
		}
	}
}

// TestAheadReadErrorP26_2: the first block that can't be read ends it, and isn't told of.
func TestAheadReadErrorP26_2(t *testing.T) {
	b, x := filled(t, 8, 8, eager)
	// Of the stripe 0 the column 5 is at hand; of the stripe 1 the columns 2, P and Q are lost then.
	readsOld(t, x, 5)
	l := x.Array().Label()
	for _, column := range []int{2, 6, 7} {
		m, _ := l.Member(1, column)
		kills(b, m)
	}
	readsOld(t, x, 4)
	x.Array().Tally().Reset()
	costs(t, "read ahead", b, 2, 0, func() { readsOld(t, x, 5) })
	counted(t, "read ahead", x, counts{tally.Hits: 1, tally.Reads: 2, tally.Ahead: 2})
	if missed(t, x, 6, 7) != 0 || missed(t, x, 9) != 1 {
		t.Error("what stands behind an error was read, or what stands ahead of it wasn't")
	}
	if x.Array().Down() {
		t.Error("the array is down")
	}
}

// TestAheadFillErrorP26_2: the first block for which there is no place ends it, and isn't counted.
func TestAheadFillErrorP26_2(t *testing.T) {
	o := eager
	o.Rows = 1
	b, x := filled(t, 5, 8, o)
	dirties(t, x, 'd', 4)
	readsOld(t, x, 1)
	costs(t, "the second one", b, 3, 0, func() { readsOld(t, x, 2) })
	// 3 and 5 have their places beside 4.
	counted(t, "within the row", x, counts{tally.Misses: 2, tally.Reads: 4, tally.Ahead: 2})
	readsOld(t, x, 3)
	costs(t, "the fourth one", b, 1, 0, func() { reads(t, x, 4, full('d')) })
	counted(t, "behind the row", x, counts{tally.Misses: 2, tally.Reads: 5, tally.Ahead: 2, tally.Hits: 2})
	pends(t, x, 0, 1)
}

// TestAheadPowerP26_2: a loss of power is passed over; the block is told, and the array is down.
func TestAheadPowerP26_2(t *testing.T) {
	b, x := filled(t, 5, 8, eager)
	dirties(t, x, 'd', 1, 2)
	b.Cut(0)
	reads(t, x, 1, full('d'))
	if x.Array().Down() {
		t.Error("the array is down, and nothing of it was asked")
	}
	reads(t, x, 2, full('d'))
	if !x.Array().Down() {
		t.Error("the array isn't down")
	}
	counted(t, "read ahead without power", x, counts{tally.Hits: 2})
	refuses(t, "read ahead without power", x, api.ErrPower)
}

func TestWriteErrorsP26_3(t *testing.T) {
	b, x := filled(t, 5, 3, Options{Queue: 1, Age: 1, Rows: 1, Dear: 0, Ahead: 0})
	writes(t, x, 'w', 4)
	s := full('x')
	costs(t, "Writes with errors", b, 0, 0, func() {
		for _, c := range []struct {
			block int
			data  string
			want  api.Errno
		}{
			{-1, s, api.ErrRange}, {9, s, api.ErrRange}, {9, "", api.ErrRange}, {-1, s[1:], api.ErrRange}, {math.MinInt, "x", api.ErrRange}, {math.MaxInt, s, api.ErrRange},
			{0, "", api.ErrForm}, {8, s[1:], api.ErrForm}, {4, s + "x", api.ErrForm}, {3, strings.Repeat("x", 65536), api.ErrForm},
		} {
			answers(t, fmt.Sprintf("Write(%d, %d bytes)", c.block, len(c.data)), x.Write(c.block, c.data), c.want)
			pends(t, x, 1, 0)
			reads(t, x, 4, full('w'))
		}
	})
	counted(t, "Writes with errors", x, nil)
	dispatches(t, x, 4)
}

// TestWriteP26_3: a write waits in the queue: nobody is asked, nothing is counted, and it is read from then on.
func TestWriteP26_3(t *testing.T) {
	b, x := filled(t, 5, 3, plain)
	old := disks(b)
	costs(t, "Writes", b, 0, 0, func() {
		for i := range 9 {
			writes(t, x, byte('a'+i), i)
		}
		writes(t, x, 'A', 0)
	})
	if !slices.Equal(disks(b), old) {
		t.Error("members have what waits")
	}
	pends(t, x, 9, 0)
	counted(t, "Writes", x, nil)
	reads(t, x, 0, full('A'))
	for i := 1; i < 9; i++ {
		reads(t, x, i, full(byte('a'+i)))
	}
	b.Cut(0)
	writes(t, x, 'Z', 8)
	reads(t, x, 8, full('Z'))
}

// TestWriteAgainP26_3: a later write of a block takes the place of the one that waits, also if the queue is full; it keeps its turn.
func TestWriteAgainP26_3(t *testing.T) {
	_, x := filled(t, 5, 8, Options{Queue: 2, Age: 2, Rows: 8, Dear: 0, Ahead: 0})
	writes(t, x, 'a', 20, 3)
	writes(t, x, 'b', 20, 3, 20)
	pends(t, x, 2, 0)
	dispatches(t, x, 3)
	writes(t, x, 'c', 5, 20)
	dispatches(t, x, 5)
	writes(t, x, 'd', 7, 20)
	// Two went ahead of it since it came.
	dispatches(t, x, 20, 7)
	reads(t, x, 20, full('d'))
	reads(t, x, 3, full('b'))
	if n, e := x.Dispatch(); n != 0 || e != api.ErrNone {
		t.Errorf("Dispatch: %d, %d", n, e)
	}
}

// TestWriteFullP26_3: if the queue is full, the block whose turn it is makes place for another one.
func TestWriteFullP26_3(t *testing.T) {
	b, x := filled(t, 5, 8, Options{Queue: 3, Age: 100, Rows: 8, Dear: 0, Ahead: 0})
	writes(t, x, 'w', 9, 2, 14)
	costs(t, "Writes of a full queue", b, 0, 0, func() {
		for i, c := range []struct{ block, gone int }{{20, 2}, {1, 9}, {0, 14}, {10, 20}} {
			writes(t, x, 'v', c.block)
			pends(t, x, 3, i+1)
			stripe, column, _ := x.geometry.Find(c.gone)
			if _, dirty := x.cache.Have(stripe); !dirty.Has(column) {
				t.Errorf("for %d not the block %d went to the cache", c.block, c.gone)
			}
		}
	})
	for _, i := range []int{20, 1, 0, 10} {
		reads(t, x, i, full('v'))
	}
	for _, i := range []int{9, 2, 14} {
		reads(t, x, i, full('w'))
	}
	dispatches(t, x, 0, 1, 10)
}

// TestWriteDispatchErrorP26_3: the error of Dispatch is told, and what was to be written isn't.
func TestWriteDispatchErrorP26_3(t *testing.T) {
	_, x := filled(t, 5, 8, Options{Queue: 1, Age: 1, Rows: 1, Dear: 0, Ahead: 0})
	writes(t, x, 'a', 0)
	writes(t, x, 'b', 4)
	pends(t, x, 1, 1)
	ends(t, x, 0, 1, 2)
	answers(t, "Write", x.Write(8, full('c')), api.ErrFailed)
	answers(t, "Write of no block", x.Write(24, full('c')), api.ErrRange)
	answers(t, "Write of too little", x.Write(8, full('c')[1:]), api.ErrForm)
	pends(t, x, 1, 1)
	// What waits is written again all the same.
	writes(t, x, 'd', 4)
	reads(t, x, 4, full('d'))
	reads(t, x, 0, full('a'))
	if have, _ := x.cache.Have(2); !have.Empty() || x.queue.Spans().Has(8) {
		t.Error("what was refused is there")
	}
}

// TestWritePowerP26_3: a write for which there is no place without power is refused, and isn't there.
func TestWritePowerP26_3(t *testing.T) {
	b, x := filled(t, 5, 8, Options{Queue: 1, Age: 1, Rows: 1, Dear: 0, Ahead: 0})
	writes(t, x, 'a', 0)
	writes(t, x, 'b', 4)
	b.Cut(0)
	answers(t, "Write", x.Write(8, full('c')), api.ErrPower)
	pends(t, x, 1, 1)
	refuses(t, "Write without power", x, api.ErrPower)
}

// TestDispatchP26_4: blocks go to the cache in the lift's order, each as it was written last; nobody is asked.
func TestDispatchP26_4(t *testing.T) {
	b, x := filled(t, 5, 8, plain)
	writes(t, x, 'w', 9, 2, 14, 3)
	costs(t, "Dispatch", b, 0, 0, func() {
		dispatches(t, x, 2, 3)
		writes(t, x, 'v', 1, 9, 4)
		pends(t, x, 4, 2)
		dispatches(t, x, 4, 9, 14, 1)
		pends(t, x, 0, 6)
		for range 2 {
			if n, e := x.Dispatch(); n != 0 || e != api.ErrNone {
				t.Errorf("Dispatch of an empty queue: %d, %d", n, e)
			}
		}
	})
	counted(t, "Dispatch", x, nil)
	for _, i := range []int{1, 4, 9} {
		reads(t, x, i, full('v'))
	}
	for _, i := range []int{2, 3, 14} {
		reads(t, x, i, full('w'))
	}
	// What it takes the place of in the cache counts no more.
	writes(t, x, 'u', 9)
	dispatches(t, x, 9)
	pends(t, x, 0, 6)
	reads(t, x, 9, full('u'))
	answers(t, "Flush", x.Flush(), api.OK)
	has(t, x, 9, full('u'))
}

// TestDispatchSettlesP26_4: if all that the cache has is dirty, some is settled, and the block has its place then.
func TestDispatchSettlesP26_4(t *testing.T) {
	_, x := filled(t, 5, 8, Options{Queue: 8, Age: 100, Rows: 2, Dear: 0, Ahead: 0})
	dirties(t, x, 'd', 0, 3, 4)
	pends(t, x, 0, 3)
	counted(t, "Dispatch", x, nil)
	writes(t, x, 'w', 8)
	dispatches(t, x, 8)
	pends(t, x, 0, 1)
	counted(t, "Dispatch", x, counts{tally.Batches: 1, tally.Great: 2})
	for _, i := range []int{0, 3, 4} {
		has(t, x, i, full('d'))
	}
	has(t, x, 8, full(byteOf(8)))
	reads(t, x, 8, full('w'))
	// A clean stripe goes without that.
	readsOld(t, x, 12)
	writes(t, x, 'w', 16)
	dispatches(t, x, 16)
	if n := x.Array().Tally().Get(tally.Batches); n != 1 {
		t.Errorf("%d batches", n)
	}
	pends(t, x, 0, 2)
}

// TestDispatchSettlesOnceP26_4: what doesn't fit the one batch stays dirty.
func TestDispatchSettlesOnceP26_4(t *testing.T) {
	o := plain
	o.Rows = 2
	_, x := filled(t, 32, 3, o)
	dirties(t, x, 'd', from(0, 60)...)
	dirties(t, x, 'd', 61)
	pends(t, x, 0, 31)
	if dirty := x.cache.Dirty(); !slices.Equal(dirty, []int{1, 2}) {
		t.Errorf("the stripes %v are dirty", dirty)
	}
	counted(t, "Dispatch", x, counts{tally.Batches: 1})
}

// TestDispatchErrorP26_4: the error of Settle is told; the block waits on, behind all others, and is read.
func TestDispatchErrorP26_4(t *testing.T) {
	b, x := filled(t, 5, 8, Options{Queue: 8, Age: 2, Rows: 1, Dear: 0, Ahead: 0})
	dirties(t, x, 'd', 0)
	ends(t, x, 0, 1, 2)
	for _, i := range []int{0, 1, 2} {
		answers(t, "Replace", x.Array().Replace(i), api.OK)
	}
	writes(t, x, 'w', 5, 9, 13)
	costs(t, "Dispatch, and three are lost", b, 0, 0, func() {
		for range 2 {
			if n, e := x.Dispatch(); n != 0 || e != api.ErrFailed {
				t.Errorf("Dispatch, and three are lost: %d, %d", n, e)
			}
		}
	})
	pends(t, x, 3, 1)
	for _, i := range []int{5, 9, 13} {
		reads(t, x, i, full('w'))
	}
	// 5 and 9 were asked for, and begin anew; two were ahead of 13 meanwhile.
	if n, ok := x.lift.Waited(5); n != 1 || !ok {
		t.Errorf("5 waits for %d, %t", n, ok)
	}
	if n, ok := x.lift.Waited(9); n != 0 || !ok {
		t.Errorf("9 waits for %d, %t", n, ok)
	}
	for _, i := range []int{0, 1, 2} {
		answers(t, "Advance", x.Array().Advance(i, 8), api.OK)
	}
	dispatches(t, x, 13, 5, 9)
	pends(t, x, 0, 1)
	has(t, x, 0, full('d'))
}

// TestDispatchPowerP26_4: a loss of power within the Settle.
func TestDispatchPowerP26_4(t *testing.T) {
	b, x := filled(t, 5, 8, Options{Queue: 8, Age: 2, Rows: 1, Dear: 0, Ahead: 0})
	dirties(t, x, 'd', 0)
	writes(t, x, 'w', 5)
	b.Cut(10)
	if n, e := x.Dispatch(); n != 0 || e != api.ErrPower || !x.Array().Down() {
		t.Errorf("Dispatch without power: %d, %d", n, e)
	}
	pends(t, x, 1, 1)
	refuses(t, "Dispatch without power", x, api.ErrPower)
}

// fits holds that no column of a stripe is lost, and that its parities are those of its data columns.
func fits(t testing.TB, x *Engine, stripe int) {
	t.Helper()
	r, e := x.Array().Load(stripe)
	if k := len(r.Columns) - 2; e != api.OK || len(r.Lost) > 0 || !syndrome.Fits(r.Columns[:k], r.Columns[k], r.Columns[k+1]) {
		t.Errorf("the stripe %d: %d, lost %v, or its parities don't fit", stripe, e, r.Lost)
	}
}

// TestSettleP26_5: by each way what is needed is read, dirty columns and parities are written, and Small and Great are counted.
func TestSettleP26_5(t *testing.T) {
	for _, c := range []struct {
		what          string
		members       int
		dirty, asked  []int
		reads, writes int
		want          counts
	}{
		{"all", 6, []int{0, 1, 2, 3}, nil, 0, 6, nil},
		{"all, some of it read", 6, []int{0, 3}, []int{1, 2}, 0, 4, nil},
		{"all but one", 6, []int{0, 1, 3}, nil, 1, 5, counts{tally.Great: 1}},
		{"half", 6, []int{0, 1}, nil, 2, 4, counts{tally.Great: 1}},
		{"one of three", 5, []int{1}, nil, 2, 3, counts{tally.Great: 1}},
		{"one of three, which is known", 5, []int{1}, []int{1}, 2, 3, counts{tally.Great: 1}},
		{"one of six", 8, []int{1}, nil, 3, 3, counts{tally.Small: 1}},
		{"one of six, which is known", 8, []int{1}, []int{1}, 2, 3, counts{tally.Small: 1}},
		{"two of six, one of them known", 8, []int{1, 4}, []int{4}, 3, 4, counts{tally.Small: 1}},
		{"one of thirty", 32, []int{17}, nil, 3, 3, counts{tally.Small: 1}},
	} {
		b, x := filled(t, c.members, 1, plain)
		readsOld(t, x, c.asked...)
		dirties(t, x, 'd', c.dirty...)
		x.Array().Tally().Reset()
		costs(t, c.what, b, int64(c.reads), batchSteps(c.members, c.writes), func() { settles(t, x, 1, api.OK) })
		want := counts{tally.Batches: 1}
		for k, n := range c.want {
			want[k] = n
		}
		counted(t, c.what, x, want)
		if n := x.Array().Tally().Most(); n != int64(c.writes) {
			t.Errorf("%s: %d writes", c.what, n)
		}
		pends(t, x, 0, 0)
		fits(t, x, 0)
		for i := range c.members - 2 {
			if slices.Contains(c.dirty, i) {
				has(t, x, i, full('d'))
			} else {
				has(t, x, i, full(byteOf(i)))
			}
		}
	}
}

// TestSettleLostP26_5: with lost columns a stripe is made as well, by the way that still may be.
func TestSettleLostP26_5(t *testing.T) {
	for _, c := range []struct {
		what         string
		lost         []int
		dirty, asked []int
		reads        int
		want         counts
	}{
		{"P", []int{6}, []int{1}, nil, 2, counts{tally.Small: 1}},
		{"P and Q", []int{6, 7}, []int{1}, nil, 5, counts{tally.Great: 1}},
		{"the dirty one", []int{1}, []int{1}, nil, 5, counts{tally.Great: 1}},
		{"the dirty one, which is known", []int{1}, []int{1}, []int{1}, 2, counts{tally.Small: 1}},
		{"the dirty one and another one", []int{1, 2}, []int{1}, nil, 6, nil},
		{"all is there", []int{0, 6}, []int{0, 1, 2, 3, 4, 5}, nil, 0, nil},
	} {
		for _, told := range []bool{false, true} {
			b, x := filled(t, 8, 1, plain)
			readsOld(t, x, c.asked...)
			dirties(t, x, 'd', c.dirty...)
			l := x.Array().Label()
			for _, column := range c.lost {
				m, _ := l.Member(0, column)
				if told {
					ends(t, x, m)
				} else {
					kills(b, m)
				}
			}
			x.Array().Tally().Reset()
			n := read(b)
			settles(t, x, 1, api.OK)
			if n = read(b) - n; n != int64(c.reads) {
				t.Errorf("%s: %d sectors read, want %d", c.what, n, c.reads)
			}
			want := counts{tally.Batches: 1}
			for k, n := range c.want {
				want[k] = n
			}
			counted(t, c.what, x, want)
			y := engineOf(t, opened(t, b), plain)
			for i := range 6 {
				if slices.Contains(c.dirty, i) {
					reads(t, y, i, full('d'))
				} else {
					readsOld(t, y, i)
				}
			}
		}
	}
}

// TestSettleKnowsP26_5: what was settled is known from then on, and is clean.
func TestSettleKnowsP26_5(t *testing.T) {
	b, x := filled(t, 8, 2, plain)
	dirties(t, x, 'a', 1, 4, 7)
	settles(t, x, 2, api.OK)
	settles(t, x, 0, api.OK)
	costs(t, "Read of what was settled", b, 0, 0, func() { reads(t, x, 4, full('a')) })
	dirties(t, x, 'b', 4)
	// P and Q alone.
	costs(t, "Settle again", b, 2, batchSteps(8, 3), func() { settles(t, x, 1, api.OK) })
	fits(t, x, 0)
	fits(t, x, 1)
	for i, want := range map[int]byte{1: 'a', 4: 'b', 7: 'a'} {
		has(t, x, i, full(want))
	}
}

// TestSettleTouchesP26_5: a stripe that is made is used by that.
func TestSettleTouchesP26_5(t *testing.T) {
	o := plain
	o.Rows = 2
	_, x := filled(t, 5, 8, o)
	dirties(t, x, 'd', 0)
	readsOld(t, x, 3)
	settles(t, x, 1, api.OK)
	readsOld(t, x, 6)
	if x.cache.Known(0).Empty() || !x.cache.Known(1).Empty() {
		t.Error("the stripe that was made went ahead of the other one")
	}
}

// TestSettleNothingP26_5: with nothing dirty nothing is done, and it is OK.
func TestSettleNothingP26_5(t *testing.T) {
	b, x := filled(t, 5, 3, plain)
	writes(t, x, 'q', 4)
	readsOld(t, x, 0)
	x.Array().Tally().Reset()
	b.Cut(0)
	costs(t, "Settle of nothing", b, 0, 0, func() { settles(t, x, 0, api.OK) })
	counted(t, "Settle of nothing", x, nil)
	pends(t, x, 1, 0)
	if x.Array().Down() {
		t.Error("the array is down, and nothing of it was asked")
	}
}

// from are so many blocks from one on.
func from(first, count int) []int {
	var all []int
	for i := range count {
		all = append(all, first+i)
	}
	return all
}

// TestSettleMostP26_5: so many stripes are one batch as have no more than 44 columns to be written, rising.
func TestSettleMostP26_5(t *testing.T) {
	for _, c := range []struct {
		members int
		dirty   [][]int // of each stripe, its dirty columns
		want    []int   // how many each Settle tells
	}{
		{22, [][]int{from(0, 20), from(0, 20), from(0, 20)}, []int{2, 1}},
		{23, [][]int{from(0, 21), from(0, 21), {4}}, []int{1, 2}},
		{32, [][]int{{7}, from(0, 30), from(0, 10), {1}}, []int{2, 2}},
		{32, [][]int{from(0, 30), from(0, 11), {0}}, []int{1, 2}},
		{32, [][]int{from(0, 30), from(0, 10), {0}}, []int{2, 1}},
		{32, [][]int{from(0, 30), from(0, 30), from(0, 30)}, []int{1, 1, 1}},
		{4, [][]int{{0}, {0}, {0}, {0}, {0}, {0}, {0}, {0}, {0}, {0}, {0}, {0}, {0}, {0}, {0}, {1}}, []int{14, 2}},
	} {
		b, x := filled(t, c.members, len(c.dirty), plain)
		k := c.members - 2
		for stripe, columns := range c.dirty {
			for _, column := range columns {
				dirties(t, x, 'd', stripe*k+column)
			}
		}
		// As much is dirty as all stripes that aren't settled yet have.
		at := 0
		for _, n := range c.want {
			settles(t, x, n, api.OK)
			at += n
			left := 0
			for _, columns := range c.dirty[at:] {
				left += len(columns)
			}
			pends(t, x, 0, left)
			if dirty := x.cache.Dirty(); !slices.Equal(dirty, from(at, len(c.dirty)-at)) {
				t.Errorf("%d members: the stripes %v are dirty, want those from %d on", c.members, dirty, at)
			}
		}
		settles(t, x, 0, api.OK)
		if n := x.Array().Tally().Get(tally.Batches); n != int64(len(c.want)) {
			t.Errorf("%d members: %d batches, want %d", c.members, n, len(c.want))
		}
		y := engineOf(t, opened(t, b), plain)
		for stripe := range c.dirty {
			fits(t, y, stripe)
			for column := range k {
				want := full(byteOf(stripe*k + column))
				if slices.Contains(c.dirty[stripe], column) {
					want = full('d')
				}
				reads(t, y, stripe*k+column, want)
			}
		}
	}
}

// TestSettleCountsColumnsP26_5: columns count, also those that nobody is to have: their members are Failed.
func TestSettleCountsColumnsP26_5(t *testing.T) {
	_, x := filled(t, 22, 3, plain)
	for stripe := range 2 {
		dirties(t, x, 'd', from(20*stripe, 20)...)
	}
	dirties(t, x, 'd', 41)
	ends(t, x, 3, 8)
	// Of each of two whole stripes 22 columns are made, and 20 written.
	settles(t, x, 2, api.OK)
	if n := x.Array().Tally().Most(); n != 40 {
		t.Errorf("%d writes", n)
	}
	settles(t, x, 1, api.OK)
}

// TestSettleMakesNoMoreP26_5: behind the first stripe that isn't taken none is made.
func TestSettleMakesNoMoreP26_5(t *testing.T) {
	b, x := filled(t, 32, 4, plain)
	for stripe := range 4 {
		dirties(t, x, 'd', from(30*stripe, 29)...)
	}
	// Each needs one column; the second one is made as well, to see that it is too much.
	costs(t, "Settle", b, 2, batchSteps(32, 31), func() { settles(t, x, 1, api.OK) })
	counted(t, "Settle", x, counts{tally.Batches: 1, tally.Great: 1})
}

// TestSettleLeftOutP26_5: a stripe of which more than two columns are lost is left out; if there are but such ones, it is ErrFailed.
func TestSettleLeftOutP26_5(t *testing.T) {
	b, x := filled(t, 5, 8, plain)
	dirties(t, x, 'd', 0, 4, 8, 16)
	ends(t, x, 0, 1, 2)
	answers(t, "Replace", x.Array().Replace(1), api.OK)
	answers(t, "Advance", x.Array().Advance(1, 2), api.OK)
	x.Array().Tally().Reset()
	settles(t, x, 2, api.OK)
	pends(t, x, 0, 2)
	if n := x.Array().Tally().Get(tally.Batches); n != 1 {
		t.Errorf("%d batches", n)
	}
	told := tallied(x.Array().Tally())
	costs(t, "Settle of what is lost", b, 0, 0, func() {
		settles(t, x, 0, api.ErrFailed)
		settles(t, x, 0, api.ErrFailed)
	})
	pends(t, x, 0, 2)
	if tallied(x.Array().Tally()) != told || x.Array().Down() {
		t.Error("a Settle of what is lost counts something, or takes the array down")
	}
	for _, i := range []int{0, 4, 8, 16} {
		reads(t, x, i, full('d'))
	}
	// All that there is of it is dirty: also a stripe that is wholly there isn't written.
	dirties(t, x, 'd', 6, 7)
	settles(t, x, 0, api.ErrFailed)
	// As soon as two at most are lost, it is.
	answers(t, "Advance", x.Array().Advance(1, 8), api.OK)
	settles(t, x, 2, api.OK)
	pends(t, x, 0, 0)
}

// TestSettlePowerP26_5: without power a Settle ends with that, be it as it reads or as it writes; what is dirty stays so.
func TestSettlePowerP26_5(t *testing.T) {
	for _, blocks := range [][]int{{1}, {0, 1, 2}, {0, 1, 2, 4, 8}} {
		b, x := filled(t, 5, 3, plain)
		dirties(t, x, 'd', blocks...)
		n := 0
		for ; ; n++ {
			b.Cut(n)
			if _, e := x.Settle(); e == api.OK {
				break
			} else if e != api.ErrPower {
				t.Fatalf("Settle with %d steps: %d", n, e)
			}
			settles(t, x, 0, api.ErrPower)
			pends(t, x, 0, len(blocks))
			counted(t, "Settle without power", x, nil)
			if n == 0 && !x.Array().Down() {
				t.Error("the array isn't down")
			}
			b, x = filled(t, 5, 3, plain)
			dirties(t, x, 'd', blocks...)
		}
		if n < 20 {
			t.Errorf("%v: %d steps were enough", blocks, n)
		}
		pends(t, x, 0, 0)
	}
}

// TestSettleStoreErrorP26_5: an error of Store is told, and nothing is done in the cache.
func TestSettleStoreErrorP26_5(t *testing.T) {
	b, _ := filled(t, 5, 3, plain)
	s, e := record.Put(record.Mark{Seq: api.MaxSeq, Sectors: 1})
	if e != api.OK {
		t.Fatal(e)
	}
	b.Member(4).Rot(api.MarkAt, s)
	// The log has no number for one more batch.
	o := plain
	o.Rows = 1
	x := engineOf(t, opened(t, b), o)
	dirties(t, x, 'd', 1)
	writes(t, x, 'q', 4)
	for range 2 {
		settles(t, x, 0, api.ErrFull)
		if n, e := x.Dispatch(); n != 0 || e != api.ErrFull {
			t.Errorf("Dispatch: %d, %d", n, e)
		}
		answers(t, "Flush", x.Flush(), api.ErrFull)
		pends(t, x, 1, 1)
	}
	counted(t, "Settle", x, nil)
	reads(t, x, 1, full('d'))
	reads(t, x, 4, full('q'))
	has(t, x, 1, full(byteOf(1)))
}

// TestFlushP26_6: all that waits and all that is dirty goes to the members, in as few batches as may be, and lasts.
func TestFlushP26_6(t *testing.T) {
	b, x := filled(t, 5, 24, plain)
	dirties(t, x, 'd', from(0, 36)...)
	writes(t, x, 'w', from(30, 40)...)
	pends(t, x, 40, 36)
	answers(t, "Flush", x.Flush(), api.OK)
	pends(t, x, 0, 0)
	// Of 23 whole stripes and one block of a further one 8 are a batch, three times.
	counted(t, "Flush", x, counts{tally.Batches: 3, tally.Great: 1})
	told := tallied(x.Array().Tally())
	b.Cut(0)
	answers(t, "Flush of nothing", x.Flush(), api.OK)
	if tallied(x.Array().Tally()) != told || x.Array().Down() {
		t.Error("a Flush of nothing has done something")
	}
	b.Crash()
	y := engineOf(t, opened(t, b), plain)
	for i := range 72 {
		switch {
		case i < 30:
			reads(t, y, i, full('d'))
		case i < 70:
			reads(t, y, i, full('w'))
		default:
			readsOld(t, y, i)
		}
	}
}

// TestFlushFullP26_6: if the cache has too little place, it is settled in between.
func TestFlushFullP26_6(t *testing.T) {
	b, x := filled(t, 5, 8, Options{Queue: 24, Age: 100, Rows: 1, Dear: 0, Ahead: 0})
	writes(t, x, 'w', from(0, 24)...)
	answers(t, "Flush", x.Flush(), api.OK)
	counted(t, "Flush", x, counts{tally.Batches: 8})
	y := engineOf(t, opened(t, b), plain)
	for i := range 24 {
		reads(t, y, i, full('w'))
	}
}

// TestFlushErrorP26_6: the first error is told: of a Dispatch, and of a Settle; what could be done is.
func TestFlushErrorP26_6(t *testing.T) {
	_, x := filled(t, 5, 8, Options{Queue: 8, Age: 8, Rows: 1, Dear: 0, Ahead: 0})
	dirties(t, x, 'd', 0)
	writes(t, x, 'w', 1, 4, 8)
	ends(t, x, 0, 1, 2)
	answers(t, "Flush", x.Flush(), api.ErrFailed)
	// One had its place in the stripe that is there.
	pends(t, x, 2, 2)

	_, x = filled(t, 5, 8, plain)
	writes(t, x, 'w', 1, 4, 8)
	ends(t, x, 0, 1, 2)
	answers(t, "Replace", x.Array().Replace(1), api.OK)
	answers(t, "Advance", x.Array().Advance(1, 2), api.OK)
	answers(t, "Flush", x.Flush(), api.ErrFailed)
	pends(t, x, 0, 1)
	settles(t, x, 0, api.ErrFailed)

	b, x := filled(t, 5, 8, plain)
	writes(t, x, 'w', 1)
	b.Cut(3)
	answers(t, "Flush without power", x.Flush(), api.ErrPower)
	pends(t, x, 0, 1)
}

// TestPendingP26_6: blocks of the queue, and dirty columns, be they of one stripe or of several.
func TestPendingP26_6(t *testing.T) {
	_, x := filled(t, 5, 8, plain)
	pends(t, x, 0, 0)
	writes(t, x, 'w', 0, 1, 5, 9, 0)
	pends(t, x, 4, 0)
	dispatches(t, x, 0, 1)
	pends(t, x, 2, 2)
	dispatches(t, x, 5)
	pends(t, x, 1, 3)
	readsOld(t, x, 2, 4, 23)
	writes(t, x, 'v', 1)
	pends(t, x, 2, 3)
	settles(t, x, 2, api.OK)
	pends(t, x, 2, 0)
	answers(t, "Flush", x.Flush(), api.OK)
	pends(t, x, 0, 0)
}

// twin is two bays alike, of which one has an engine, the other one the model.
type twin struct {
	t        *testing.T
	r        *rand.Rand
	o        Options
	one, two *bay.Bay
	x        *Engine
	m        *model
	next     int
}

// begin opens both arrays, with a new engine and a new model.
func (w *twin) begin() {
	w.x, w.m = nil, nil
	a, e := naive.Open(w.one)
	b, f := naive.Open(w.two)
	if e != f {
		w.t.Fatalf("Open: %d, %d", e, f)
	}
	if e == api.OK {
		w.x, w.m = engineOf(w.t, a, w.o), fresh(b, w.o)
	}
}

// alike holds that all is that was told of a call, and all that can be seen behind it.
func (w *twin) alike(what string, got, want any) {
	w.t.Helper()
	if got, want := fmt.Sprint(got), fmt.Sprint(want); got != want {
		w.t.Fatalf("%s: %s, want %s", what, got, want)
	}
	for i := range w.one.Size() {
		if a, b := w.one.Member(i).Counts(), w.two.Member(i).Counts(); a != b {
			w.t.Fatalf("%s: the member %d was asked %v, want %v", what, i, a, b)
		}
	}
	a, b := tallied(w.x.Array().Tally()), tallied(w.m.a.Tally())
	if a != b || w.x.Array().Down() != w.m.a.Down() || w.one.Steps() != w.two.Steps() {
		w.t.Fatalf("%s: %s, %t; want %s, %t", what, a, w.x.Array().Down(), b, w.m.a.Down())
	}
	n, d := w.x.Pending()
	if k, l := w.m.Pending(); n != k || d != l {
		w.t.Fatalf("%s: Pending %d, %d; want %d, %d", what, n, d, k, l)
	}
}

// told is what a call told, as one thing.
func told(l ...any) []any {
	return l
}

// block is one that there is, or now and then one that there isn't; often the one behind the last one.
func (w *twin) block() int {
	switch n := w.m.blocks(); w.r.Intn(20) {
	case 0:
		w.next = w.r.Intn(n+4) - 2
	case 1, 2, 3, 4, 5, 6:
		w.next = w.r.Intn(n)
	case 7, 8, 9:
		w.next = w.r.Intn(min(n, 9))
	default:
		w.next++
	}
	return w.next
}

// use asks both for the same.
func (w *twin) use() {
	switch w.r.Intn(12) {
	case 0, 1, 2, 3:
		i := w.block()
		s, e := w.x.Read(i)
		f, g := w.m.Read(i)
		w.alike(fmt.Sprintf("Read(%d)", i), told(s, e), told(f, g))
	case 4, 5, 6, 7, 8:
		i, s := w.block(), full(byte(w.r.Intn(256)))
		if w.r.Intn(40) == 0 {
			s = s[1:]
		}
		w.alike(fmt.Sprintf("Write(%d)", i), w.x.Write(i, s), w.m.Write(i, s))
	case 9:
		n, e := w.x.Dispatch()
		k, f := w.m.Dispatch()
		w.alike("Dispatch", told(n, e), told(k, f))
	case 10:
		n, e := w.x.Settle()
		k, f := w.m.Settle()
		w.alike("Settle", told(n, e), told(k, f))
	default:
		if w.r.Intn(3) == 0 {
			w.alike("Flush", w.x.Flush(), w.m.Flush())
		}
	}
}

// change changes something about both arrays, whatever comes of it: more than two members may be lost, and some be whole by the label alone.
func (w *twin) change() {
	i, n := w.r.Intn(w.one.Size()), w.r.Intn(w.m.a.Label().Stripes+1)
	switch w.r.Intn(8) {
	case 0:
		w.one.Member(i).Fail()
		w.two.Member(i).Fail()
	case 1:
		w.alike("Fail", w.x.Array().Fail(i), w.m.a.Fail(i))
	case 2, 3:
		w.alike("Replace", w.x.Array().Replace(i), w.m.a.Replace(i))
	case 4, 5:
		w.alike("Advance", w.x.Array().Advance(i, n), w.m.a.Advance(i, n))
	case 6:
		steps := w.r.Intn(20 * w.one.Size())
		w.one.Cut(steps)
		w.two.Cut(steps)
	default:
		s := full('!')
		w.alike("Write", w.x.Array().Write(n, s), w.m.a.Write(n, s))
	}
}

// crash takes the power away, and opens both again; if nobody is left, it is formatted anew.
func (w *twin) crash() {
	w.one.Crash()
	w.two.Crash()
	w.begin()
	if w.x == nil {
		w.one, w.two = bayOf(w.t, w.one.Size(), w.one.Member(0).Size()-100), bayOf(w.t, w.one.Size(), w.one.Member(0).Size()-100)
		w.begin()
	}
}

// TestModelP26: whatever is asked for, an engine answers, counts, reads and writes as the chapter's words say.
func TestModelP26(t *testing.T) {
	r := rand.New(rand.NewSource(26))
	seen := counts{}
	for round := range 300 {
		n, stripes, rows := 4+r.Intn(6), 1+r.Intn(12), 1+r.Intn(6)
		if round%20 == 0 {
			n, stripes, rows = 20+r.Intn(13), 4, 4
		}
		w := &twin{t: t, r: r, o: Options{1 + r.Intn(8), 1 + r.Intn(6), rows, r.Intn(rows), r.Intn(10)}, one: bayOf(t, n, stripes), two: bayOf(t, n, stripes)}
		if round%20 == 0 {
			w.o.Queue = 64
		}
		w.begin()
		for range 150 {
			if r.Intn(16) == 0 {
				w.change()
			} else {
				w.use()
			}
			if w.x.Array().Down() && r.Intn(4) == 0 || r.Intn(200) == 0 {
				w.crash()
			}
		}
		if !slices.Equal(disks(w.one), disks(w.two)) {
			t.Fatalf("round %d: the members aren't alike", round)
		}
		for k := range tally.Kinds {
			seen[k] += w.x.Array().Tally().Get(k)
		}
	}
	for k := range tally.Kinds {
		// The last two are counted by the array's own calls alone.
		if seen[k] < 100 && k != tally.Writes && k != tally.Fixed {
			t.Errorf("%s: %d", k.Name(), seen[k])
		}
	}
}

// crash takes the power away behind a loss of it; of what waits on each member something is kept, by chance.
func crash(r *rand.Rand, b *bay.Bay) {
	var kept [][]uint64
	for range b.Size() {
		kept = append(kept, []uint64{[]uint64{0, math.MaxUint64, r.Uint64()}[r.Intn(3)]})
	}
	b.Crash(kept...)
}

// reopened is the array behind a loss of power; the power may fail further times while it is opened.
func reopened(t testing.TB, r *rand.Rand, b *bay.Bay) *naive.Array {
	t.Helper()
	crash(r, b)
	for range r.Intn(3) {
		b.Cut(r.Intn(40))
		if a, e := naive.Open(b); e == api.OK {
			b.Crash()
			return a
		} else if e != api.ErrPower {
			t.Fatalf("Open: %d", e)
		}
		crash(r, b)
	}
	return opened(t, b)
}

// TestEachStepP26_7: the power fails at each step of a Flush, with no, one and two members lost, and further ones that fail behind it: each block that was written since the last Flush is as it was, or as one of its writes; no other one changes.
func TestEachStepP26_7(t *testing.T) {
	r := rand.New(rand.NewSource(267))
	for _, lost := range [][]int{nil, {1}, {0, 2}, {3, 4}} {
		for n := 0; n < 260; n++ {
			b, x := filled(t, 5, 4, Options{Queue: 3, Age: 4, Rows: 2, Dear: 1, Ahead: 2})
			kills(b, lost...)
			writes(t, x, 'o', 1, 7)
			answers(t, "Flush", x.Flush(), api.OK)
			writes(t, x, 'm', 1, 2)
			writes(t, x, 'n', 1)
			b.Cut(n)
			ways := map[int]string{1: "omn", 2: string([]byte{byteOf(2)}) + "m", 7: "o"}
			last, done := map[int]byte{1: 'n', 2: 'm', 7: 'o'}, true
			for _, block := range []int{9, 7, 4, 11} {
				was := ways[block]
				if was == "" {
					was = string([]byte{byteOf(block)})
				}
				if done = x.Write(block, full('n')) == api.OK; !done {
					break
				}
				ways[block], last[block] = was+"n", 'n'
			}
			done = done && x.Flush() == api.OK
			crash(r, b)
			for left := 2 - len(lost); left > 0; left-- {
				b.Member(r.Intn(5)).Fail()
			}
			y := engineOf(t, reopened(t, r, b), plain)
			for block := range 12 {
				s, e := y.Read(block)
				may, there := ways[block]
				if !there {
					may = string([]byte{byteOf(block)})
				} else if done {
					may = string([]byte{last[block]})
				}
				if e != api.OK || s != full(s[0]) || !strings.Contains(may, s[:1]) {
					t.Fatalf("lost %v, %d steps: the block %d is %q, %d; want one of %q", lost, n, block, s, e, may)
				}
			}
			if n == 0 && done || n == 259 && !done {
				t.Errorf("lost %v, %d steps: done is %t", lost, n, done)
			}
		}
	}
}

// script is an engine that is used, what its blocks must be, and what they may be behind a loss of power.
type script struct {
	t    *testing.T
	r    *rand.Rand
	b    *bay.Bay
	o    Options
	x    *Engine
	want []string
	ways [][]string
	lost int // how often the power failed within a call
}

// ok holds that a call is OK, or met a loss of power: then the array is opened again, with a new engine.
func (s *script) ok(what string, e api.Errno) bool {
	s.t.Helper()
	if e != api.OK && e != api.ErrPower {
		s.t.Fatalf("%s: %d", what, e)
	}
	if e == api.ErrPower || s.x.Array().Down() {
		s.reopen()
		s.lost++
	}
	return e == api.OK
}

// reopen loses all that an engine has; each block is in one of its ways, and stays so.
func (s *script) reopen() {
	s.x = engineOf(s.t, reopened(s.t, s.r, s.b), s.o)
	for i := range s.want {
		now, e := s.x.Array().Read(i)
		if e != api.OK || !slices.Contains(s.ways[i], now) {
			s.t.Fatalf("behind a loss of power the block %d is %q, %d; want one of %q", i, now, e, s.ways[i])
		}
		s.want[i], s.ways[i] = now, []string{now}
	}
}

// write writes a block; one that was refused is not among what it may be.
func (s *script) write(i int) {
	data := full(byte(s.r.Intn(256)))
	e := s.x.Write(i, data)
	if e == api.OK {
		s.want[i], s.ways[i] = data, append(s.ways[i], data)
	}
	s.ok("Write", e)
}

// read reads a block, which is as it was written last.
func (s *script) read(i int) {
	data, e := s.x.Read(i)
	if e == api.OK && data != s.want[i] {
		s.t.Fatalf("Read(%d): %q, want %q", i, data, s.want[i])
	}
	s.ok("Read", e)
}

// flush makes all last that was written.
func (s *script) flush() {
	e := s.x.Flush()
	if e == api.OK {
		for i, now := range s.want {
			s.ways[i] = []string{now}
		}
	}
	s.ok("Flush", e)
}

// whole tells if a member has all that it should have.
func (s *script) whole(i int) bool {
	return !s.b.Member(i).Dead() && s.x.Array().Label().States[i] == label.InSync
}

// end ends a member, if that may be: not more than two.
func (s *script) end() {
	one, left := s.r.Intn(s.b.Size()), 2
	for i := range s.b.Size() {
		if i != one && !s.whole(i) {
			left--
		}
	}
	if left <= 0 {
		return
	}
	if s.r.Intn(2) == 0 {
		s.b.Member(one).Fail()
		return
	}
	s.ok("Fail", s.x.Array().Fail(one))
}

// replace puts another member in the place of one that is Failed.
func (s *script) replace() {
	if i := slices.Index(s.x.Array().Label().States, label.Failed); i >= 0 {
		s.ok("Replace", s.x.Array().Replace(i))
	}
}

// rebuild brings some stripes of a member back, as a caller would.
func (s *script) rebuild() {
	a := s.x.Array()
	i, first, ok := a.Next()
	if !ok {
		return
	}
	l := a.Label()
	to := min(first+1+s.r.Intn(4), l.Stripes)
	var w []record.Write
	for stripe := first; stripe < to; stripe++ {
		r, e := a.Load(stripe)
		if !s.ok("Load", e) {
			return
		}
		column, _ := l.Column(stripe, i)
		w = append(w, record.Write{Member: i, Stripe: stripe, Data: r.Columns[column]})
	}
	if s.ok("Raw", a.Raw(w)) {
		s.ok("Advance", a.Advance(i, to))
	}
}

// step does one thing; the power may fail within it.
func (s *script) step() {
	cut := s.r.Intn(6) == 0
	if cut {
		s.b.Cut(s.r.Intn(20 * s.b.Size()))
	}
	i := s.r.Intn(len(s.want))
	switch s.r.Intn(20) {
	case 0:
		s.end()
	case 1:
		s.replace()
	case 2, 3:
		s.rebuild()
	case 4:
		s.flush()
	case 5:
		_, e := s.x.Settle()
		s.ok("Settle", e)
	case 6, 7:
		if _, e := s.x.Dispatch(); e != api.ErrNone {
			s.ok("Dispatch", e)
		}
	case 8, 9:
		for n := i; n < min(i+6, len(s.want)); n++ {
			s.read(n)
		}
	case 10, 11, 12:
		s.read(i)
	case 13, 14:
		for n := i; n < min(i+s.r.Intn(9), len(s.want)); n++ {
			s.write(n)
		}
	default:
		s.write(i)
	}
	// What was under way is behind it, and the power may come and go: an array that met none of that isn't down.
	if cut {
		crash(s.r, s.b)
	}
}

// TestLongScriptsP26_7: reads and writes, members that end and are brought back, losses of power, new engines: each block is read as it was written last, and no write is refused; behind a loss of power it is in one of its ways.
func TestLongScriptsP26_7(t *testing.T) {
	r := rand.New(rand.NewSource(2670))
	brought, lost := 0, 0
	for round := range 120 {
		n, stripes, rows := 4+r.Intn(5), 1+r.Intn(9), 1+r.Intn(6)
		if round%20 == 0 {
			n, stripes = 32, 3
		}
		b := bayOf(t, n, stripes)
		o := Options{1 + r.Intn(8), 1 + r.Intn(8), rows, r.Intn(rows), r.Intn(9)}
		s := &script{t: t, r: r, b: b, o: o, x: engineOf(t, opened(t, b), o)}
		for range (n - 2) * stripes {
			s.want, s.ways = append(s.want, full(0)), append(s.ways, []string{full(0)})
		}
		for range 200 {
			s.step()
			s.read(r.Intn(len(s.want)))
		}
		for i := range s.want {
			s.read(i)
		}
		s.end()
		s.flush()
		for stripe := range stripes {
			if gone, _ := s.x.Array().Lost(stripe); len(gone) == 0 {
				fits(t, s.x, stripe)
			}
		}
		s.reopen()
		for i := range n {
			if b.Member(i).Counts().Replaced > 0 && s.whole(i) {
				brought++
			}
		}
		lost += s.lost
		if t.Failed() {
			t.Fatalf("round %d", round)
		}
	}
	if brought < 40 || lost < 200 {
		t.Errorf("%d members were brought back, the power failed %d times", brought, lost)
	}
}
