package naive

import (
	"fmt"
	"maps"
	"math"
	"math/rand"
	"reflect"
	"slices"
	"strings"
	"testing"

	"trunnion/api"
	"trunnion/bay"
	"trunnion/board"
	"trunnion/geom"
	"trunnion/label"
	"trunnion/member"
	"trunnion/record"
	"trunnion/repair"
	"trunnion/row"
	"trunnion/syndrome"
	"trunnion/tally"
	"trunnion/wal"
)

// ints are numbers of all sizes: those about the edges of members, stripes, columns and blocks, and the least and greatest ones.
var ints = []int{math.MinInt, math.MinInt + 1, -1 << 32, -65, -9, -5, -1, 0, 1, 2, 3, 4, 5, 6, 7, 8, 9, 10, 15, 31, 32, 33, 63, 64, 65, 100, 256, 1 << 16, 1 << 32, 1<<32 + 1, math.MaxInt - 1, math.MaxInt}

// full is a block's bytes, all of them alike.
func full(c byte) string {
	return strings.Repeat(string([]byte{c}), 64)
}

// g is a geometry.
func g(members, stripes int) geom.Geometry {
	return geom.Geometry{Members: members, Stripes: stripes}
}

// answers holds what a call answered.
func answers(t testing.TB, what string, e, want api.Errno) {
	t.Helper()
	if e != want {
		t.Errorf("%s: %d, want %d", what, e, want)
	}
}

// opened is the array of a bay.
func opened(t testing.TB, b *bay.Bay) *Array {
	t.Helper()
	a, e := Open(b)
	if e != api.OK || a == nil {
		t.Fatalf("Open: %v, %d", a, e)
	}
	return a
}

// formatted is a bay with a new array, and that.
func formatted(t testing.TB, members, stripes int) (*bay.Bay, *Array) {
	t.Helper()
	b := bay.New(members, 100+stripes)
	if e := Format(b, g(members, stripes)); e != api.OK {
		t.Fatalf("Format: %d", e)
	}
	return b, opened(t, b)
}

// byteOf is what a block of a filled array is made of.
func byteOf(block int) byte {
	return byte(1 + 37*block%251)
}

// filled is an array each block of which has been written.
func filled(t testing.TB, members, stripes int) (*bay.Bay, *Array) {
	t.Helper()
	b, a := formatted(t, members, stripes)
	for i := range a.Label().Blocks() {
		if e := a.Write(i, full(byteOf(i))); e != api.OK {
			t.Fatalf("Write(%d): %d", i, e)
		}
	}
	a.Tally().Reset()
	return b, a
}

// reads holds what a block is.
func reads(t testing.TB, a *Array, block int, want string) {
	t.Helper()
	if s, e := a.Read(block); s != want || e != api.OK {
		t.Errorf("Read(%d): %q, %d; want %q", block, s, e, want)
	}
}

// readsAll holds what all blocks are.
func readsAll(t testing.TB, a *Array, want []string) {
	t.Helper()
	for i, s := range want {
		reads(t, a, i, s)
	}
}

// disk is all that a member is: what it has, what waits, whether it is dead.
func disk(m *member.Member) string {
	var all []string
	for at := range m.Size() {
		s, _ := m.Read(at)
		all = append(all, s)
	}
	return fmt.Sprint(m.Dead(), m.Waiting(), strings.Join(all, ""))
}

// disks are all members of a bay.
func disks(b *bay.Bay) []string {
	var all []string
	for i := range b.Size() {
		all = append(all, disk(b.Member(i)))
	}
	return all
}

// alike holds that two bays are, and that as many steps were made.
func alike(t testing.TB, what string, a, b *bay.Bay) {
	t.Helper()
	if !slices.Equal(disks(a), disks(b)) || a.Steps() != b.Steps() {
		t.Errorf("%s: the bays aren't alike: %d and %d steps", what, a.Steps(), b.Steps())
	}
}

// untouched holds that a call changes nothing, and makes no step.
func untouched(t testing.TB, what string, b *bay.Bay, call func()) {
	t.Helper()
	old, steps := disks(b), b.Steps()
	call()
	if !slices.Equal(disks(b), old) || b.Steps() != steps {
		t.Errorf("%s has changed the bay", what)
	}
}

// counted is all that a tally tells.
func counted(x *tally.Tally) string {
	var all []int64
	for k := range tally.Kinds {
		all = append(all, x.Get(k))
	}
	return fmt.Sprint(all, x.Bars(), x.Most())
}

// counts holds a tally: of the kinds in order Reads, Writes, Batches, Fixed; all others are 0.
func counts(t testing.TB, what string, a *Array, reads, writes, batches, fixed int64) {
	t.Helper()
	x := a.Tally()
	for k := range tally.Kinds {
		want := map[tally.Kind]int64{tally.Reads: reads, tally.Writes: writes, tally.Batches: batches, tally.Fixed: fixed}[k]
		if n := x.Get(k); n != want {
			t.Errorf("%s: %s %d, want %d", what, k.Name(), n, want)
		}
	}
	var noted int64
	for _, n := range x.Bars() {
		noted += n
	}
	if noted != batches {
		t.Errorf("%s: %d noted, %d batches", what, noted, batches)
	}
}

// sectorOf is what a member has of a stripe.
func sectorOf(b *bay.Bay, member, stripe int) string {
	s, _ := b.Member(member).Read(api.DataAt + stripe)
	return s
}

func TestExample(t *testing.T) {
	a := full('a')
	for one := range 4 {
		for two := range 4 {
			b := bay.New(4, 102)
			answers(t, "Format", Format(b, g(4, 2)), api.OK)
			x := opened(t, b)
			answers(t, "Write(1, a)", x.Write(1, a), api.OK)
			reads(t, x, 1, a)
			answers(t, "Fail", x.Fail(one), api.OK)
			answers(t, "Fail", x.Fail(two), api.OK)
			readsAll(t, x, []string{full(0), a, full(0), full(0)})
		}
	}
}

// asks are all calls of an array that answer an error, each with arguments that are wrong if wrong is true.
func asks(wrong bool) map[string]func(a *Array) (any, api.Errno) {
	none := func(e api.Errno) (any, api.Errno) { return nil, e }
	n, s := 0, full('x')
	if wrong {
		n, s = 999, "x"
	}
	return map[string]func(a *Array) (any, api.Errno){
		"Load":    func(a *Array) (any, api.Errno) { r, e := a.Load(n); return r, e },
		"Column":  func(a *Array) (any, api.Errno) { r, e := a.Column(n, n); return r, e },
		"Lost":    func(a *Array) (any, api.Errno) { r, e := a.Lost(n); return len(r), e },
		"Store":   func(a *Array) (any, api.Errno) { return none(a.Store([]Change{{n, map[int]string{n: s}}})) },
		"Raw":     func(a *Array) (any, api.Errno) { return none(a.Raw([]record.Write{{Member: n, Stripe: n, Data: s}})) },
		"Read":    func(a *Array) (any, api.Errno) { r, e := a.Read(n); return r, e },
		"Write":   func(a *Array) (any, api.Errno) { return none(a.Write(n, s)) },
		"Fail":    func(a *Array) (any, api.Errno) { return none(a.Fail(n)) },
		"Replace": func(a *Array) (any, api.Errno) { return none(a.Replace(n)) },
		"Advance": func(a *Array) (any, api.Errno) { return none(a.Advance(n, n)) },
	}
}

// refuses holds that all calls answer one error, and nothing beside it.
func refuses(t *testing.T, what string, a *Array, want api.Errno) {
	t.Helper()
	for _, wrong := range []bool{false, true} {
		for name, ask := range asks(wrong) {
			r, e := ask(a)
			answers(t, what+": "+name, e, want)
			if r != nil && !reflect.ValueOf(r).IsZero() {
				t.Errorf("%s: %s answers %v beside an error", what, name, r)
			}
		}
	}
}

func TestNilArrayP1(t *testing.T) {
	var a *Array
	refuses(t, "nil", a, api.ErrNil)
	if a.Down() || a.Tally() != nil || !reflect.DeepEqual(a.Label(), label.Label{}) {
		t.Errorf("a nil array: %v, %v, %v", a.Down(), a.Tally(), a.Label())
	}
	if i, n, ok := a.Next(); i != 0 || n != 0 || ok {
		t.Errorf("Next of a nil array: %d, %d, %v", i, n, ok)
	}
}

// TestArrayThatOpenDidNotMakeP1: it has nothing, and nothing panics.
func TestArrayThatOpenDidNotMakeP1(t *testing.T) {
	for _, wrong := range []bool{false, true} {
		a := &Array{}
		for name, ask := range asks(wrong) {
			if _, e := ask(a); e == api.OK {
				t.Errorf("%s of an array that has nothing is OK", name)
			}
		}
		if a.Down() || a.Label().Good() {
			t.Errorf("an array that has nothing: %v, %v", a.Down(), a.Label())
		}
		if i, n, ok := a.Next(); i != 0 || n != 0 || ok {
			t.Errorf("Next: %d, %d, %v", i, n, ok)
		}
	}
}

// TestAllNumbersP1: each int may be handed in, wherever one may.
func TestAllNumbersP1(t *testing.T) {
	_, a := filled(t, 5, 3)
	for _, i := range ints {
		for _, n := range ints {
			if _, e := a.Column(i, n); (e == api.OK) != (i >= 0 && i < 3 && n >= 0 && n < 5) || e != api.OK && e != api.ErrRange {
				t.Errorf("Column(%d, %d): %d", i, n, e)
			}
			want := api.OK
			if i < 0 || i >= 3 || n < 0 || n >= 5 {
				want = api.ErrRange
			}
			answers(t, fmt.Sprintf("Store of {%d, %d}", i, n), a.Store([]Change{{i, map[int]string{n: full('s')}}}), want)
			want = api.OK
			if i < 0 || i >= 32 || n < 0 || n >= 64 {
				want = api.ErrForm
			}
			answers(t, fmt.Sprintf("Raw of {%d, %d}", i, n), a.Raw([]record.Write{{Member: i, Stripe: n, Data: full('r')}}), want)
			want = api.ErrState
			if i < 0 || i >= 5 || n < 0 || n > 3 {
				want = api.ErrRange
			}
			answers(t, fmt.Sprintf("Advance(%d, %d)", i, n), a.Advance(i, n), want)
		}
		want := api.OK
		if i < 0 || i >= 3 {
			want = api.ErrRange
		}
		_, e := a.Load(i)
		answers(t, fmt.Sprintf("Load(%d)", i), e, want)
		_, e = a.Lost(i)
		answers(t, fmt.Sprintf("Lost(%d)", i), e, want)
		want = api.OK
		if i < 0 || i >= 9 {
			want = api.ErrRange
		}
		_, e = a.Read(i)
		answers(t, fmt.Sprintf("Read(%d)", i), e, want)
		answers(t, fmt.Sprintf("Write(%d)", i), a.Write(i, full('w')), want)
		want = api.ErrState
		if i < 0 || i >= 5 {
			want = api.ErrRange
			answers(t, fmt.Sprintf("Fail(%d)", i), a.Fail(i), want)
		}
		answers(t, fmt.Sprintf("Replace(%d)", i), a.Replace(i), want)
	}
	if a.Down() {
		t.Error("it is down by wrong arguments")
	}
}

// TestApartP2: what is done to one array is nothing to another one, or to its bay and its tally.
func TestApartP2(t *testing.T) {
	one, a := filled(t, 5, 3)
	two, b := filled(t, 5, 3)
	tallied := counted(b.Tally())
	untouched(t, "another array", two, func() {
		a.Write(0, full('z'))
		a.Fail(1)
		a.Read(0)
		one.Cut(3)
		a.Write(1, full('y'))
	})
	if !a.Down() || b.Down() || counted(b.Tally()) != tallied || b.Label().States[1] != label.InSync || a.Tally() == b.Tally() {
		t.Error("arrays have to do with one another")
	}
	reads(t, b, 0, full(byteOf(0)))
}

// TestFormatP19_1: Format is the board's: its errors, and all that it leaves, wherever the power fails.
func TestFormatP19_1(t *testing.T) {
	answers(t, "Format of nil", Format(nil, g(4, 2)), api.ErrNil)
	for _, x := range []struct {
		members, sectors int
		g                geom.Geometry
		dead, cut        int
	}{
		{5, 103, g(5, 3), -1, -1}, {5, 164, g(3, 3), -1, -1}, {5, 164, g(5, 0), 1, 0}, {5, 102, g(5, 3), 1, 0}, {4, 164, g(5, 3), -1, -1}, {5, 103, g(5, 3), 2, 0}, {32, 164, g(32, 64), -1, -1}, {32, 164, g(32, 65), -1, -1},
		{5, 103, g(5, 3), -1, 0}, {5, 103, g(5, 3), -1, 1}, {5, 103, g(5, 3), -1, 17}, {5, 103, g(5, 3), -1, 39}, {5, 103, g(5, 3), -1, 40},
	} {
		one, two := bay.New(x.members, x.sectors), bay.New(x.members, x.sectors)
		for _, b := range []*bay.Bay{one, two} {
			for i := range x.members {
				b.Member(i).Rot(0, full(byte('a'+i)))
				b.Member(i).Rot(101, full(byte('A'+i)))
			}
			b.Member(x.dead).Fail()
			if x.cut >= 0 {
				b.Cut(x.cut)
			}
		}
		answers(t, fmt.Sprint("Format of ", x), Format(one, x.g), board.Format(two, x.g))
		alike(t, fmt.Sprint("Format of ", x), one, two)
	}
}

func TestOpenErrorsP19_1(t *testing.T) {
	for what, x := range map[string]struct {
		make func() *bay.Bay
		want api.Errno
	}{
		"nil":     {func() *bay.Bay { return nil }, api.ErrNil},
		"nothing": {func() *bay.Bay { return bay.New(5, 164) }, api.ErrNone},
		"all dead": {func() *bay.Bay {
			b, _ := filled(t, 4, 2)
			for i := range 4 {
				b.Member(i).Fail()
			}
			return b
		}, api.ErrFailed},
		"another bay": {func() *bay.Bay {
			b, _ := filled(t, 4, 2)
			s, _ := b.Read(0, 1)
			other := bay.New(5, 164)
			other.Member(3).Rot(1, s)
			return other
		}, api.ErrArg},
		"the last Epoch": {func() *bay.Bay {
			b, a := filled(t, 4, 2)
			l := a.Label()
			l.Epoch = api.MaxEpoch
			s, _ := label.Put(l)
			b.Member(3).Rot(0, s)
			return b
		}, api.ErrFull},
		"no power": {func() *bay.Bay { b, _ := filled(t, 4, 2); b.Cut(0); return b }, api.ErrPower},
	} {
		if a, e := Open(x.make()); a != nil || e != x.want {
			t.Errorf("Open of %s: %v, %d; want %d", what, a, e, x.want)
		}
	}
}

// torn is a bay in whose last write the power failed behind so many steps; nothing that waited was kept.
func torn(t testing.TB, steps int) *bay.Bay {
	t.Helper()
	b, a := filled(t, 5, 3)
	b.Cut(steps)
	a.Write(4, full('n'))
	b.Crash()
	return b
}

// TestOpenP19_1: Open is the board's, and then the log's Recover, wherever the power fails meanwhile.
func TestOpenP19_1(t *testing.T) {
	for _, steps := range []int{0, 20, 38, 45, 50, 55} {
		for n := range 40 {
			one, two := torn(t, steps), torn(t, steps)
			one.Cut(n)
			two.Cut(n)
			a, e := Open(one)
			x, want := board.Open(two)
			if want == api.OK {
				_, want = wal.New(two).Recover()
			}
			answers(t, fmt.Sprintf("Open, %d steps behind %d", n, steps), e, want)
			alike(t, fmt.Sprintf("Open, %d steps behind %d", n, steps), one, two)
			if (a == nil) != (e != api.OK) {
				t.Errorf("Open: %v, %d", a, e)
			}
			if e == api.OK && !reflect.DeepEqual(a.Label(), x.Label()) {
				t.Errorf("Open: %v, want %v", a.Label(), x.Label())
			}
		}
	}
}

// TestOpenCountsOnP19_1: the log goes on behind what was recovered, and the array has all that it needs.
func TestOpenCountsOnP19_1(t *testing.T) {
	b, a := filled(t, 5, 3)
	for range 3 {
		a = opened(t, b)
		if a.Down() || a.Tally() == nil || counted(a.Tally()) != counted(tally.New()) {
			t.Fatalf("a new array: %v, %v", a.Down(), a.Tally())
		}
		answers(t, "Write", a.Write(2, full('w')), api.OK)
	}
	var all []string
	for at := range 2 {
		s, _ := b.Read(0, api.MarkAt+at)
		all = append(all, s)
	}
	if m, ok := record.Newest(all); !ok || m.Seq != 12 {
		t.Errorf("the newest mark is %v; there were 12 batches", m)
	}
}

// TestLabelTallyP19_1: the label is the board's, with lists of its own; the tally is the array's own one.
func TestLabelTallyP19_1(t *testing.T) {
	_, a := filled(t, 5, 3)
	l := a.Label()
	if l.Geometry != g(5, 3) || l.Epoch != 2 || !slices.Equal(l.States, make([]label.State, 5)) || !slices.Equal(l.Marks, make([]int, 5)) {
		t.Errorf("its label: %v", l)
	}
	l.States[0], l.Marks[1] = label.Failed, 7
	if other := a.Label(); other.States[0] != label.InSync || other.Marks[1] != 0 {
		t.Errorf("labels share their lists: %v", other)
	}
	reads(t, a, 2, full(byteOf(2)))
	kept := a.Tally()
	a.Tally().Add(tally.Hits, 5)
	a.Read(0)
	if a.Tally() != kept || kept.Get(tally.Hits) != 5 || kept.Get(tally.Reads) != 2 {
		t.Error("the tally isn't the array's own")
	}
}

// TestDownP19_1: each call that meets ErrPower takes the array down; from then on all answer that, also with power again; label and tally are told.
func TestDownP19_1(t *testing.T) {
	for name, ask := range asks(false) {
		if name == "Lost" || name == "Replace" || name == "Advance" {
			continue
		}
		b, a := filled(t, 5, 3)
		b.Cut(0)
		if a.Down() {
			t.Fatal("it is down, and nothing was asked")
		}
		r, e := ask(a)
		answers(t, name, e, api.ErrPower)
		if r != nil && !reflect.ValueOf(r).IsZero() {
			t.Errorf("%s answers %v beside an error", name, r)
		}
		downHolds(t, name, b, a)
	}
}

// downHolds holds what an array is that is down.
func downHolds(t *testing.T, what string, b *bay.Bay, a *Array) {
	t.Helper()
	if !a.Down() {
		t.Errorf("%s: it isn't down", what)
	}
	b.Crash()
	told, tallied := a.Label(), counted(a.Tally())
	untouched(t, what, b, func() { refuses(t, what, a, api.ErrPower) })
	if !a.Down() || a.Label().Geometry != g(5, 3) || !reflect.DeepEqual(a.Label(), told) || counted(a.Tally()) != tallied || a.Tally() == nil {
		t.Errorf("%s: %v, %v", what, a.Down(), a.Label())
	}
	if x := opened(t, b); x.Down() {
		t.Errorf("%s: it is down behind a new Open", what)
	}
}

func TestDownByBoardP19_1P19_4(t *testing.T) {
	b, a := filled(t, 5, 3)
	answers(t, "Fail", a.Fail(2), api.OK)
	b.Cut(2)
	answers(t, "Replace", a.Replace(2), api.ErrPower)
	downHolds(t, "Replace", b, a)

	b, a = filled(t, 5, 3)
	a.Fail(2)
	answers(t, "Replace", a.Replace(2), api.OK)
	b.Cut(2)
	answers(t, "Advance", a.Advance(2, 1), api.ErrPower)
	if i, n, ok := a.Next(); i != 2 || n != 0 || !ok {
		t.Errorf("Next of one that is down: %d, %d, %v", i, n, ok)
	}
	downHolds(t, "Advance", b, a)
}

// TestNotDownP19_1: an array isn't down by a power that nobody met, nor by other errors.
func TestNotDownP19_1(t *testing.T) {
	b, a := filled(t, 5, 3)
	answers(t, "Fail", a.Fail(1), api.OK)
	b.Cut(0)
	if l, e := a.Lost(0); !slices.Equal(l, []int{0}) || e != api.OK {
		t.Errorf("Lost without power: %v, %d", l, e)
	}
	answers(t, "Fail of one that is Failed and dead, without power", a.Fail(1), api.OK)
	for name, ask := range asks(true) {
		if _, e := ask(a); e == api.OK || e == api.ErrPower {
			t.Errorf("%s of wrong arguments: %d", name, e)
		}
	}
	answers(t, "Replace of one that isn't Failed", a.Replace(0), api.ErrState)
	if _, e := a.Column(0, 0); e != api.ErrFailed {
		t.Errorf("Column of a lost one: %d", e)
	}
	b.Member(2).Fail()
	b.Member(3).Fail()
	if _, e := a.Load(0); e != api.ErrFailed {
		t.Errorf("Load of too many lost: %d", e)
	}
	answers(t, "Write into a stripe that is lost", a.Write(0, full('x')), api.ErrFailed)
	if a.Down() {
		t.Error("it is down, and met no loss of power")
	}
	b.Crash()
	reads(t, a, 3, full(byteOf(3)))
}

// breaks gives a bay's members ends: those by the board, and those of which it isn't told.
func breaks(t testing.TB, b *bay.Bay, a *Array, failed, dead []int) {
	t.Helper()
	for _, i := range failed {
		answers(t, "Fail", a.Fail(i), api.OK)
	}
	for _, i := range dead {
		b.Member(i).Fail()
	}
}

// pairs are all ways in which up to two members of five may end.
func pairs() [][2][]int {
	all := [][2][]int{{nil, nil}}
	for i := range 5 {
		all = append(all, [2][]int{{i}, nil}, [2][]int{nil, {i}})
		for n := range 5 {
			if n != i {
				all = append(all, [2][]int{{i}, {n}})
			}
			if n > i {
				all = append(all, [2][]int{{i, n}, nil}, [2][]int{nil, {i, n}})
			}
		}
	}
	return all
}

// TestLoadP19_2: rows are layer 16's; those with lost columns are counted.
func TestLoadP19_2(t *testing.T) {
	for _, x := range pairs() {
		b, a := filled(t, 5, 6)
		breaks(t, b, a, x[0], x[1])
		for stripe := range 6 {
			r, e := a.Load(stripe)
			want, f := row.New(b).Load(a.Label(), stripe)
			if e != api.OK || f != api.OK || !reflect.DeepEqual(r, want) {
				t.Errorf("Load(%d): %v, %d; want %v, %d", stripe, r, e, want, f)
			}
			var data []string
			for i := range 3 {
				data = append(data, full(byteOf(3*stripe+i)))
			}
			if !slices.Equal(r.Columns[:3], data) || !syndrome.Fits(data, r.Columns[3], r.Columns[4]) || len(r.Lost) != len(x[0])+len(x[1]) {
				t.Errorf("Load(%d): %v", stripe, r)
			}
			l, e := a.Lost(stripe)
			if e != api.OK || !slices.Equal(l, r.Lost) {
				t.Errorf("Lost(%d): %v, %d; want %v", stripe, l, e, r.Lost)
			}
		}
		fixed := int64(6)
		if x[0] == nil && x[1] == nil {
			fixed = 0
		}
		counts(t, fmt.Sprint(x), a, 0, 0, 0, fixed)
	}
}

// TestLoadOwnMemoryP19_2: what is answered is nobody else's.
func TestLoadOwnMemoryP19_2(t *testing.T) {
	b, a := filled(t, 5, 3)
	breaks(t, b, a, []int{1}, nil)
	r, _ := a.Load(0)
	l, _ := a.Lost(0)
	r.Columns[1], r.Lost[0], l[0] = "", 4, 3
	if again, e := a.Load(0); e != api.OK || again.Columns[1] != full(byteOf(1)) || !slices.Equal(again.Lost, []int{0}) || again.Kind != repair.OneData {
		t.Errorf("Load: %v, %d", again, e)
	}
}

func TestLoadErrorsP19_2(t *testing.T) {
	b, a := filled(t, 5, 3)
	breaks(t, b, a, []int{0, 1}, []int{2})
	for stripe := range 3 {
		if r, e := a.Load(stripe); e != api.ErrFailed || !reflect.ValueOf(r).IsZero() {
			t.Errorf("Load(%d) of three lost: %v, %d", stripe, r, e)
		}
		if l, e := a.Lost(stripe); len(l) != 3 || e != api.OK {
			t.Errorf("Lost(%d) of three lost: %v, %d", stripe, l, e)
		}
	}
	for _, stripe := range []int{-1, 3} {
		if _, e := a.Load(stripe); e != api.ErrRange {
			t.Errorf("Load(%d): %d", stripe, e)
		}
	}
	counts(t, "Loads with errors", a, 0, 0, 0, 0)
}

// TestColumnP19_2: a column is what its member has, be it right or wrong; a lost one is not told.
func TestColumnP19_2(t *testing.T) {
	for _, x := range pairs() {
		b, a := filled(t, 5, 6)
		b.Member(3).Rot(api.DataAt+1, full('~'))
		breaks(t, b, a, x[0], x[1])
		for stripe := range 6 {
			lost, _ := a.Lost(stripe)
			for column := range 5 {
				m, _ := a.Label().Geometry.Member(stripe, column)
				s, e := a.Column(stripe, column)
				want, f := sectorOf(b, m, stripe), api.OK
				if slices.Contains(lost, column) {
					want, f = "", api.ErrFailed
				}
				if s != want || e != f {
					t.Errorf("Column(%d, %d): %q, %d; want %q, %d", stripe, column, s, e, want, f)
				}
			}
		}
		counts(t, "columns", a, 0, 0, 0, 0)
	}
}

// TestColumnReadsOneP19_2: nobody but its member is read.
func TestColumnReadsOneP19_2(t *testing.T) {
	b, a := filled(t, 5, 3)
	for column := range 5 {
		m, _ := a.Label().Geometry.Member(2, column)
		var old []int64
		for i := range 5 {
			old = append(old, b.Member(i).Counts().Reads)
		}
		a.Column(2, column)
		for i := range 5 {
			want := old[i]
			if i == m {
				want++
			}
			if n := b.Member(i).Counts().Reads; n != want {
				t.Errorf("Column(2, %d): the member %d was read %d times", column, i, n-old[i])
			}
		}
	}
}

// TestRawP19_2: writes are one batch, to members that the label may say anything of; it is counted, and its size noted.
func TestRawP19_2(t *testing.T) {
	b, a := filled(t, 5, 3)
	a.Fail(1)
	a.Replace(1)
	w := []record.Write{{Member: 1, Stripe: 2, Data: full('p')}, {Member: 0, Stripe: 0, Data: full('q')}, {Member: 0, Stripe: 0, Data: full('r')}}
	kept := slices.Clone(w)
	steps := b.Steps()
	answers(t, "Raw", a.Raw(w), api.OK)
	if sectorOf(b, 1, 2) != full('p') || sectorOf(b, 0, 0) != full('r') {
		t.Error("what was written isn't there")
	}
	// Of five members: four sectors and a flush each, a mark and a flush each, three writes, a flush each.
	if n := b.Steps() - steps; n != 5*5+5*2+3+5 {
		t.Errorf("%d steps", n)
	}
	if !slices.Equal(w, kept) {
		t.Error("what was handed in has changed")
	}
	counts(t, "Raw", a, 0, 0, 1, 0)
	if a.Tally().Most() != 3 || !slices.Equal(a.Tally().Bars(), []int64{0, 0, 1}) {
		t.Errorf("noted: %v", a.Tally().Bars())
	}
	answers(t, "Raw of nothing", a.Raw(nil), api.OK)
	answers(t, "Raw of 44", a.Raw(slices.Repeat(w[:1], 44)), api.OK)
	counts(t, "Raw", a, 0, 0, 3, 0)
	if a.Tally().Most() != 44 || !slices.Equal(a.Tally().Bars(), []int64{1, 0, 1, 0, 0, 0, 1}) {
		t.Errorf("noted: %v", a.Tally().Bars())
	}
	b.Crash()
	if sectorOf(b, 1, 2) != full('p') || sectorOf(b, 0, 0) != full('r') {
		t.Error("what was written doesn't last")
	}
}

// lastNumber is an array whose log has no number for one more batch.
func lastNumber(t testing.TB) (*bay.Bay, *Array) {
	t.Helper()
	b, _ := filled(t, 5, 3)
	s, e := record.Put(record.Mark{Seq: api.MaxSeq, Sectors: 1})
	if e != api.OK {
		t.Fatal(e)
	}
	b.Member(4).Rot(api.MarkAt, s)
	return b, opened(t, b)
}

func TestRawErrorsP19_2(t *testing.T) {
	x := full('x')
	b, a := filled(t, 5, 3)
	for _, w := range [][]record.Write{
		{{Member: 32, Data: x}}, {{Member: -1, Data: x}}, {{Stripe: 64, Data: x}}, {{Stripe: -1, Data: x}}, {{Data: x[1:]}}, {{Data: x + "x"}}, {{}}, {{Data: x}, {Data: ""}},
		slices.Repeat([]record.Write{{Data: x}}, 45),
	} {
		untouched(t, "a batch that isn't good", b, func() { answers(t, fmt.Sprint("Raw of ", w), a.Raw(w), api.ErrForm) })
	}
	breaks(t, b, a, nil, []int{0, 1, 2, 3, 4})
	answers(t, "Raw, and nobody is live", a.Raw([]record.Write{{Data: x}}), api.ErrFailed)
	counts(t, "errors", a, 0, 0, 0, 0)
	b, a = lastNumber(t)
	untouched(t, "a batch without a number", b, func() {
		answers(t, "Raw", a.Raw([]record.Write{{Data: x}}), api.ErrFull)
		answers(t, "Store", a.Store([]Change{{0, map[int]string{0: x}}}), api.ErrFull)
		answers(t, "Write", a.Write(0, x), api.ErrFull)
	})
	counts(t, "errors", a, 0, 0, 0, 0)
	b, a = filled(t, 5, 3)
	b.Cut(20)
	answers(t, "Raw", a.Raw([]record.Write{{Data: x}}), api.ErrPower)
	counts(t, "errors", a, 0, 0, 0, 0)
}

// TestStoreP19_2: all changes are one batch, in order; what stands behind counts.
func TestStoreP19_2(t *testing.T) {
	b, a := filled(t, 5, 3)
	l := []Change{{2, map[int]string{4: full('q'), 0: full('a')}}, {0, map[int]string{3: full('p')}}, {2, map[int]string{0: full('b')}}, {1, nil}}
	steps := b.Steps()
	answers(t, "Store", a.Store(l), api.OK)
	// A head and four writes in the ring, of five members.
	if n := b.Steps() - steps; n != 5*6+5*2+4+5 {
		t.Errorf("%d steps", n)
	}
	for _, x := range []struct {
		stripe, column int
		want           byte
	}{{2, 4, 'q'}, {2, 0, 'b'}, {0, 3, 'p'}, {2, 1, byteOf(7)}, {0, 0, byteOf(0)}, {1, 2, byteOf(5)}} {
		if s, e := a.Column(x.stripe, x.column); s != full(x.want) || e != api.OK {
			t.Errorf("Column(%d, %d): %q, %d", x.stripe, x.column, s, e)
		}
	}
	counts(t, "Store", a, 0, 0, 1, 0)
	if a.Tally().Most() != 4 {
		t.Errorf("%d writes were noted", a.Tally().Most())
	}
	if !reflect.DeepEqual(l, []Change{{2, map[int]string{4: full('q'), 0: full('a')}}, {0, map[int]string{3: full('p')}}, {2, map[int]string{0: full('b')}}, {1, nil}}) {
		t.Error("what was handed in has changed")
	}
	answers(t, "Store of nothing", a.Store(nil), api.OK)
	answers(t, "Store of no columns", a.Store([]Change{{0, nil}, {2, map[int]string{}}}), api.OK)
	counts(t, "Store", a, 0, 0, 3, 0)
	if !slices.Equal(a.Tally().Bars(), []int64{2, 0, 0, 1}) {
		t.Errorf("noted: %v", a.Tally().Bars())
	}
}

// TestStoreByLabelP19_2: Failed members get nothing, Rebuilding ones up to their Mark; of a dead one that the label doesn't know the write is counted.
func TestStoreByLabelP19_2(t *testing.T) {
	b, a := filled(t, 5, 3)
	a.Fail(1)
	a.Fail(2)
	a.Replace(2)
	answers(t, "Advance", a.Advance(2, 1), api.OK)
	b.Member(3).Fail()
	all := func(c byte) map[int]string {
		return map[int]string{0: full(c), 1: full(c), 2: full(c), 3: full(c), 4: full(c)}
	}
	answers(t, "Store", a.Store([]Change{{0, all('0')}, {1, all('1')}}), api.OK)
	if a.Tally().Most() != 4+3 {
		t.Errorf("%d writes were noted", a.Tally().Most())
	}
	for i, want := range []string{"01", "", "0\x00", "", "01"} {
		for stripe := range want {
			if s := sectorOf(b, i, stripe); s != full(want[stripe]) {
				t.Errorf("the member %d has %q of the stripe %d", i, s, stripe)
			}
		}
	}
}

// TestStoreErrorsP19_2: the first error is told, and nothing is written.
func TestStoreErrorsP19_2(t *testing.T) {
	good, x := map[int]string{0: full('g')}, full('x')
	b, a := filled(t, 5, 3)
	for i, c := range []struct {
		l    []Change
		want api.Errno
	}{
		{[]Change{{3, good}}, api.ErrRange},
		{[]Change{{-1, nil}}, api.ErrRange},
		{[]Change{{0, map[int]string{5: x}}}, api.ErrRange},
		{[]Change{{0, map[int]string{-1: x}}}, api.ErrRange},
		{[]Change{{0, map[int]string{4: x[1:]}}}, api.ErrArg},
		{[]Change{{0, map[int]string{0: x + "x"}}}, api.ErrArg},
		{[]Change{{0, map[int]string{0: "", 5: x}}}, api.ErrArg},
		{[]Change{{0, map[int]string{-1: "", 0: ""}}}, api.ErrRange},
		{[]Change{{0, good}, {1, good}, {3, good}, {0, map[int]string{0: ""}}}, api.ErrRange},
		{[]Change{{0, good}, {1, good}, {0, map[int]string{0: ""}}, {3, good}}, api.ErrArg},
		{slices.Repeat([]Change{{0, good}}, 45), api.ErrForm},
		{append(slices.Repeat([]Change{{0, good}}, 45), Change{9, nil}), api.ErrRange},
	} {
		untouched(t, "Store with an error", b, func() { answers(t, fmt.Sprint("Store ", i), a.Store(c.l), c.want) })
	}
	counts(t, "errors", a, 0, 0, 0, 0)
	answers(t, "Store of 44", a.Store(slices.Repeat([]Change{{0, good}}, 44)), api.OK)
	if a.Down() {
		t.Error("it is down")
	}
}

// TestStoreWholeP19_2: wherever the power fails, all columns of all changes are there, or none.
func TestStoreWholeP19_2(t *testing.T) {
	l := []Change{{0, map[int]string{0: full('x'), 3: full('p')}}, {2, map[int]string{1: full('y'), 4: full('q')}}}
	done, not := 0, 0
	for n := range 60 {
		b, a := filled(t, 5, 3)
		var old []string
		for _, c := range l {
			for _, i := range slices.Sorted(maps.Keys(c.Columns)) {
				s, _ := a.Column(c.Stripe, i)
				old = append(old, s)
			}
		}
		b.Cut(n)
		e := a.Store(l)
		if e != api.OK && e != api.ErrPower || a.Down() != (e == api.ErrPower) {
			t.Fatalf("Store: %d, %v", e, a.Down())
		}
		b.Crash([]uint64{uint64(n)}, nil, []uint64{math.MaxUint64})
		a = opened(t, b)
		var now []string
		for _, c := range l {
			for _, i := range slices.Sorted(maps.Keys(c.Columns)) {
				s, _ := a.Column(c.Stripe, i)
				now = append(now, s)
			}
		}
		switch {
		case slices.Equal(now, []string{full('x'), full('p'), full('y'), full('q')}):
			done++
		case slices.Equal(now, old) && e == api.ErrPower:
			not++
		default:
			t.Errorf("%d steps: %q", n, now)
		}
	}
	if done < 5 || not < 5 {
		t.Errorf("%d done, %d not", done, not)
	}
}

// TestReadP19_3: blocks are had of their members, or of the others; Loads that One makes aren't the array's, and aren't counted.
func TestReadP19_3(t *testing.T) {
	for _, x := range pairs() {
		b, a := filled(t, 5, 6)
		breaks(t, b, a, x[0], x[1])
		for i := range 18 {
			reads(t, a, i, full(byteOf(i)))
		}
		counts(t, fmt.Sprint(x), a, 18, 0, 0, 0)
	}
}

// TestReadOneP19_3: a block that isn't lost is read of its member alone, and told as that has it.
func TestReadOneP19_3(t *testing.T) {
	b, a := filled(t, 5, 3)
	for i := range 9 {
		m, _ := a.Label().Geometry.Member(i/3, i%3)
		old, all := b.Member(m).Counts().Reads, int64(0)
		for n := range 5 {
			all -= b.Member(n).Counts().Reads
		}
		reads(t, a, i, full(byteOf(i)))
		for n := range 5 {
			all += b.Member(n).Counts().Reads
		}
		if all != 1 || b.Member(m).Counts().Reads != old+1 {
			t.Errorf("Read(%d): %d reads", i, all)
		}
	}
	b.Member(1).Rot(api.DataAt, full('~'))
	reads(t, a, 0, full('~'))
	answers(t, "Fail", a.Fail(1), api.OK)
	reads(t, a, 0, full(byteOf(0)))
}

func TestReadErrorsP19_3(t *testing.T) {
	b, a := filled(t, 5, 3)
	for _, block := range []int{-1, 9, math.MinInt, math.MaxInt} {
		if s, e := a.Read(block); s != "" || e != api.ErrRange {
			t.Errorf("Read(%d): %q, %d", block, s, e)
		}
	}
	// The stripe 0 lies on 1, 2, 3 and 4, 0: of three dead ones those two are lost that lie on them.
	breaks(t, b, a, []int{1, 2}, []int{4})
	for block, want := range []api.Errno{api.ErrFailed, api.ErrFailed, api.OK} {
		s, e := a.Read(block)
		if e != want || (e == api.OK) != (s == full(byteOf(block))) || e != api.OK && s != "" {
			t.Errorf("Read(%d): %q, %d; want %d", block, s, e, want)
		}
	}
	counts(t, "errors", a, 1, 0, 0, 0)
	b.Cut(0)
	if s, e := a.Read(2); s != "" || e != api.ErrPower || !a.Down() {
		t.Errorf("Read without power: %q, %d", s, e)
	}
	b.Crash()
	if _, e := a.Read(2); e != api.ErrPower {
		t.Errorf("Read of one that is down: %d", e)
	}
	counts(t, "errors", a, 1, 0, 0, 0)
}

// TestWriteP19_3: the whole stripe is written, with its parities; no other block changes.
func TestWriteP19_3(t *testing.T) {
	for _, n := range []int{4, 5, 7, 31, 32} {
		b, a := filled(t, n, 3)
		want := make([]string, a.Label().Blocks())
		for i := range want {
			want[i] = full(byteOf(i))
		}
		for k, i := range []int{0, 1, n - 3, n - 2, 2*(n-2) + 1, len(want) - 1, 0} {
			want[i] = strings.Repeat(string([]byte{byte(k), byte(200 - k)}), 32)
			steps := b.Steps()
			answers(t, fmt.Sprintf("Write(%d)", i), a.Write(i, want[i]), api.OK)
			// The ring has the head and all columns, of all members; then there are marks, all columns, and flushes.
			head := (16 + 4*n + 63) / 64
			if made := b.Steps() - steps; made != int64(n*(head+n+1)+2*n+n+n) {
				t.Errorf("Write(%d) of %d members: %d steps", i, n, made)
			}
			if !row.New(b).Whole(a.Label(), i/(n-2)) {
				t.Errorf("Write(%d) of %d members: the parities don't fit", i, n)
			}
		}
		counts(t, "Write", a, 0, 7, 7, 0)
		if a.Tally().Most() != int64(n) {
			t.Errorf("%d writes were noted", a.Tally().Most())
		}
		readsAll(t, a, want)
		b.Crash()
		readsAll(t, opened(t, b), want)
	}
}

// TestWriteMakesP19_3: the parities are made anew of the data columns: what stood there ahead of it makes no difference.
func TestWriteMakesP19_3(t *testing.T) {
	b, a := filled(t, 5, 3)
	b.Member(4).Rot(api.DataAt, full('~'))
	b.Member(0).Rot(api.DataAt, full('!'))
	answers(t, "Write", a.Write(1, full('w')), api.OK)
	p, q, _ := syndrome.Make([]string{full(byteOf(0)), full('w'), full(byteOf(2))})
	for column, want := range []string{full(byteOf(0)), full('w'), full(byteOf(2)), p, q} {
		if s, e := a.Column(0, column); s != want || e != api.OK {
			t.Errorf("Column(0, %d): %q, %d", column, s, e)
		}
	}
}

// TestWriteLostP19_3: with up to two columns lost a block is written all the same, and its Load is counted as fixed.
func TestWriteLostP19_3(t *testing.T) {
	for _, x := range pairs() {
		b, a := filled(t, 5, 3)
		breaks(t, b, a, x[0], x[1])
		want := make([]string, 9)
		for i := range want {
			want[i] = full(byte('A' + i))
			answers(t, fmt.Sprint("Write with lost ", x), a.Write(i, want[i]), api.OK)
		}
		fixed := int64(9)
		if x[0] == nil && x[1] == nil {
			fixed = 0
		}
		counts(t, fmt.Sprint(x), a, 0, 9, 9, fixed)
		if n := a.Tally().Most(); n != int64(5-len(x[0])) {
			t.Errorf("%v: %d writes were noted", x, n)
		}
		readsAll(t, a, want)
		b.Crash()
		readsAll(t, opened(t, b), want)
	}
}

func TestWriteErrorsP19_3(t *testing.T) {
	b, a := filled(t, 5, 3)
	x := full('x')
	for _, c := range []struct {
		block int
		data  string
		want  api.Errno
	}{
		{-1, x, api.ErrRange}, {9, x, api.ErrRange}, {9, "", api.ErrRange}, {math.MinInt, "x", api.ErrRange}, {math.MaxInt, x, api.ErrRange},
		{0, "", api.ErrForm}, {8, x[1:], api.ErrForm}, {8, x + "x", api.ErrForm}, {3, strings.Repeat("x", 65536), api.ErrForm},
	} {
		untouched(t, "Write with an error", b, func() {
			answers(t, fmt.Sprintf("Write(%d, %d bytes)", c.block, len(c.data)), a.Write(c.block, c.data), c.want)
		})
	}
	breaks(t, b, a, []int{0}, []int{1, 2})
	untouched(t, "Write with an error", b, func() {
		answers(t, "Write of no block, and three are lost", a.Write(9, x), api.ErrRange)
		answers(t, "Write of too little, and three are lost", a.Write(0, x[1:]), api.ErrForm)
		answers(t, "Write of too much, and three are lost", a.Write(0, x+"x"), api.ErrForm)
		for i := range 9 {
			answers(t, "Write, and three are lost", a.Write(i, x), api.ErrFailed)
		}
	})
	counts(t, "errors", a, 0, 0, 0, 0)
	if a.Down() {
		t.Error("it is down")
	}
}

// TestWriteDownP19_3: in a write within which the power fails nothing is counted but for its Load.
func TestWriteDownP19_3(t *testing.T) {
	for n := range 55 {
		b, a := filled(t, 5, 3)
		breaks(t, b, a, nil, []int{1})
		b.Cut(n)
		e := a.Write(0, full('w'))
		if n == 0 {
			answers(t, "Write without power", e, api.ErrPower)
			counts(t, "Write", a, 0, 0, 0, 0)
			continue
		}
		// Of four live members: a head, five columns and a flush each; a mark and a flush each; four columns; a flush each.
		want, done := api.ErrPower, int64(0)
		if n >= 4*7+4*2+4+4 {
			want, done = api.OK, 1
		}
		answers(t, fmt.Sprintf("Write with %d steps", n), e, want)
		counts(t, fmt.Sprintf("Write with %d steps", n), a, 0, done, done, 1)
		if a.Down() != (want == api.ErrPower) {
			t.Errorf("%d steps: down is %v", n, a.Down())
		}
	}
}

// TestMembersP19_4: Fail, Replace, Advance and Next are the board's, with all that they leave.
func TestMembersP19_4(t *testing.T) {
	r := rand.New(rand.NewSource(19))
	for range 200 {
		one, a := filled(t, 5, 3)
		two, _ := filled(t, 5, 3)
		x, e := board.Open(two)
		if e != api.OK {
			t.Fatal(e)
		}
		a = opened(t, one)
		wal.New(two).Recover()
		for range 20 {
			i, n := r.Intn(7)-1, r.Intn(6)-1
			switch r.Intn(3) {
			case 0:
				answers(t, fmt.Sprintf("Fail(%d)", i), a.Fail(i), x.Fail(i))
			case 1:
				answers(t, fmt.Sprintf("Replace(%d)", i), a.Replace(i), x.Replace(i))
			default:
				answers(t, fmt.Sprintf("Advance(%d, %d)", i, n), a.Advance(i, n), x.Advance(i, n))
			}
			m, k, ok := a.Next()
			if m2, k2, ok2 := x.Next(); m != m2 || k != k2 || ok != ok2 {
				t.Errorf("Next: %d, %d, %v; want %d, %d, %v", m, k, ok, m2, k2, ok2)
			}
			if !reflect.DeepEqual(a.Label(), x.Label()) {
				t.Errorf("the label: %v, want %v", a.Label(), x.Label())
			}
		}
		alike(t, "members", one, two)
		counts(t, "members", a, 0, 0, 0, 0)
	}
}

// TestMembersFullP19_4: the board's errors are told.
func TestMembersFullP19_4(t *testing.T) {
	b, a := filled(t, 5, 3)
	l := a.Label()
	l.Epoch = api.MaxEpoch - 1
	l.States[1], l.States[2] = label.Failed, label.Rebuilding
	s, _ := label.Put(l)
	for i := range 5 {
		b.Member(i).Rot(int(l.Epoch%2), s)
	}
	a = opened(t, b)
	answers(t, "Fail", a.Fail(0), api.ErrFull)
	answers(t, "Replace", a.Replace(1), api.ErrFull)
	answers(t, "Advance", a.Advance(2, 1), api.ErrFull)
	if a.Down() {
		t.Error("it is down")
	}
}

// crash takes the power away behind a loss of it; of what waits on each member something is kept, by chance.
func crash(r *rand.Rand, b *bay.Bay) {
	var kept [][]uint64
	for range b.Size() {
		kept = append(kept, []uint64{[]uint64{0, math.MaxUint64, r.Uint64()}[r.Intn(3)]})
	}
	b.Crash(kept...)
}

// reopened is the array behind a loss of power; the power may fail further times while it is opened.
func reopened(t testing.TB, r *rand.Rand, b *bay.Bay) *Array {
	t.Helper()
	crash(r, b)
	for range r.Intn(3) {
		b.Cut(r.Intn(40))
		if a, e := Open(b); e == api.OK {
			b.Crash()
			return a
		} else if e != api.ErrPower {
			t.Fatalf("Open: %d", e)
		}
		crash(r, b)
	}
	return opened(t, b)
}

// TestEachStepP19_5: the power fails at each step of a write, with no, one and two members lost, and further ones that fail behind it: the block is as it was, or as it was to be; no other one changes.
func TestEachStepP19_5(t *testing.T) {
	r := rand.New(rand.NewSource(195))
	for _, x := range [][2][]int{{nil, nil}, {{1}, nil}, {nil, {4}}, {{0}, {2}}, {{3, 4}, nil}, {nil, {1, 2}}} {
		ways := [2]int{}
		for n := range 62 {
			for range 3 {
				b, a := filled(t, 5, 2)
				breaks(t, b, a, x[0], x[1])
				b.Cut(n)
				e := a.Write(1, full('n'))
				crash(r, b)
				for left := 2 - len(x[0]) - len(x[1]); left > 0; left-- {
					b.Member(r.Intn(5)).Fail()
				}
				a = reopened(t, r, b)
				s, f := a.Read(1)
				if f != api.OK || s != full('n') && (s != full(byteOf(1)) || e == api.OK) {
					t.Fatalf("%v, %d steps: Write %d, Read %q, %d", x, n, e, s, f)
				}
				ways[min(strings.Count(s, "n"), 1)]++
				for i := range 6 {
					if i != 1 {
						reads(t, a, i, full(byteOf(i)))
					}
				}
			}
		}
		if ways[0] < 10 || ways[1] < 10 {
			t.Errorf("%v: %v", x, ways)
		}
	}
}

// script is an array that is used, and what its blocks must be.
type script struct {
	t    *testing.T
	r    *rand.Rand
	b    *bay.Bay
	a    *Array
	want []string
}

// ok holds that a call is OK, or met a loss of power: then the array is opened again.
func (s *script) ok(what string, e api.Errno) bool {
	if e != api.OK && e != api.ErrPower || s.a.Down() != (e == api.ErrPower) {
		s.t.Fatalf("%s: %d, %v", what, e, s.a.Down())
	}
	if e == api.ErrPower {
		s.a = reopened(s.t, s.r, s.b)
	}
	return e == api.OK
}

// write writes a block.
func (s *script) write() {
	i, data := s.r.Intn(len(s.want)), full(byte(s.r.Intn(256)))
	if s.ok("Write", s.a.Write(i, data)) {
		s.want[i] = data
		return
	}
	now, e := s.a.Read(i)
	if e != api.OK || now != data && now != s.want[i] {
		s.t.Fatalf("behind a loss of power: %q, %d", now, e)
	}
	s.want[i] = now
}

// whole tells if a member has all that it should have.
func (s *script) whole(i int) bool {
	return !s.b.Member(i).Dead() && s.a.Label().States[i] == label.InSync
}

// end ends a member, if that may be: not more than two.
func (s *script) end() {
	one, left := s.r.Intn(s.b.Size()), 2
	for i := range s.b.Size() {
		if i != one && !s.whole(i) {
			left--
		}
	}
	if left <= 0 {
		return
	}
	if s.r.Intn(2) == 0 {
		s.b.Member(one).Fail()
		return
	}
	s.ok("Fail", s.a.Fail(one))
}

// replace puts another member in the place of one that is Failed.
func (s *script) replace() {
	if i := slices.Index(s.a.Label().States, label.Failed); i >= 0 {
		s.ok("Replace", s.a.Replace(i))
	}
}

// rebuild brings some stripes of a member back, as a caller would.
func (s *script) rebuild() {
	i, from, ok := s.a.Next()
	if !ok {
		return
	}
	l := s.a.Label()
	to := min(from+1+s.r.Intn(4), l.Stripes)
	var w []record.Write
	for stripe := from; stripe < to; stripe++ {
		r, e := s.a.Load(stripe)
		if !s.ok("Load", e) {
			return
		}
		column, _ := l.Column(stripe, i)
		w = append(w, record.Write{Member: i, Stripe: stripe, Data: r.Columns[column]})
	}
	if s.ok("Raw", s.a.Raw(w)) {
		s.ok("Advance", s.a.Advance(i, to))
	}
}

// step does one thing; the power may fail within it.
func (s *script) step() {
	cut := s.r.Intn(4) == 0
	if cut {
		s.b.Cut(s.r.Intn(12 * s.b.Size()))
	}
	switch s.r.Intn(9) {
	case 0:
		s.end()
	case 1:
		s.replace()
	case 2, 3:
		s.rebuild()
	case 4:
		s.a = reopened(s.t, s.r, s.b)
	default:
		s.write()
	}
	// What was under way is behind it, and the power may come and go: an array that met none of that isn't down.
	if cut {
		crash(s.r, s.b)
	}
}

// TestLongScriptsP19_5: writes, members that end and are brought back, losses of power, new Opens: each block is read as it was written last.
func TestLongScriptsP19_5(t *testing.T) {
	r := rand.New(rand.NewSource(1950))
	brought := 0
	for round := range 60 {
		n, stripes := 4+r.Intn(5), 1+r.Intn(9)
		if round%20 == 0 {
			n, stripes = 32, 2
		}
		b, a := formatted(t, n, stripes)
		s := &script{t: t, r: r, b: b, a: a, want: slices.Repeat([]string{full(0)}, (n-2)*stripes)}
		for range 80 {
			s.step()
			i := r.Intn(len(s.want))
			reads(t, s.a, i, s.want[i])
		}
		readsAll(t, s.a, s.want)
		readsAll(t, opened(t, b), s.want)
		for i := range n {
			if b.Member(i).Counts().Replaced > 0 && s.whole(i) {
				brought++
			}
		}
		if t.Failed() {
			t.Fatalf("round %d", round)
		}
	}
	if brought < 20 {
		t.Errorf("%d members were brought back", brought)
	}
}
