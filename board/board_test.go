package board

import (
	"fmt"
	"math"
	"math/rand"
	"reflect"
	"slices"
	"strings"
	"testing"

	"trunnion/api"
	"trunnion/bay"
	"trunnion/geom"
	"trunnion/label"
	"trunnion/member"
)

// ints are numbers of all sizes: those about the edges of members and stripes, and the least and greatest ones.
var ints = []int{math.MinInt, math.MinInt + 1, -1 << 32, -65, -64, -33, -32, -6, -5, -4, -3, -2, -1, 0, 1, 2, 3, 4, 5, 6, 7, 31, 32, 33, 63, 64, 65, 100, 256, 1 << 16, 1 << 32, 1<<32 + 1, math.MaxInt - 1, math.MaxInt}

// most is the greatest Epoch, as the document writes it.
const most = 9007199254740992

// full is a sector's bytes, all of them alike.
func full(c byte) string {
	return strings.Repeat(string([]byte{c}), 64)
}

// g is a geometry.
func g(members, stripes int) geom.Geometry {
	return geom.Geometry{Members: members, Stripes: stripes}
}

// lb is a label: its states one after another as letters (s InSync, f Failed, a digit Rebuilding with that Mark).
func lb(epoch int64, stripes int, states string) label.Label {
	l := label.Label{Geometry: g(len(states), stripes), Epoch: epoch}
	for _, c := range states {
		state, mark := label.InSync, 0
		switch {
		case c == 'f':
			state = label.Failed
		case c != 's':
			state, mark = label.Rebuilding, int(c-'0')
		}
		l.States, l.Marks = append(l.States, state), append(l.Marks, mark)
	}
	return l
}

// same: are two labels alike?
func same(a, b label.Label) bool {
	return a.Geometry == b.Geometry && a.Epoch == b.Epoch && slices.Equal(a.States, b.States) && slices.Equal(a.Marks, b.Marks)
}

// sector is that of a label.
func sector(t testing.TB, l label.Label) string {
	t.Helper()
	s, e := label.Put(l)
	if e != api.OK {
		t.Fatalf("%v is no good label", l)
	}
	return s
}

// lay gives a member a label, lasting, in the place of its Epoch.
func lay(t testing.TB, b *bay.Bay, i int, l label.Label) {
	t.Helper()
	if !b.Member(i).Rot(int(l.Epoch%2), sector(t, l)) {
		t.Fatalf("the member %d takes no label", i)
	}
}

// formatted is a bay with a new array.
func formatted(t testing.TB, members, stripes int) *bay.Bay {
	t.Helper()
	b := bay.New(members, 100+stripes)
	if e := Format(b, g(members, stripes)); e != api.OK {
		t.Fatalf("Format: %d", e)
	}
	return b
}

// opened is a board of a bay.
func opened(t testing.TB, b *bay.Bay) *Board {
	t.Helper()
	x, e := Open(b)
	if e != api.OK || x == nil {
		t.Fatalf("Open: %v, %d", x, e)
	}
	return x
}

// boardOf is a board of a bay whose label is one that was laid on all members that aren't dead, with the Epoch one less.
func boardOf(t testing.TB, want label.Label, dead ...int) (*bay.Bay, *Board) {
	t.Helper()
	b := bay.New(want.Members, 164)
	ahead := want.Copy()
	ahead.Epoch--
	for i := range want.Members {
		lay(t, b, i, ahead)
	}
	for _, i := range dead {
		b.Member(i).Fail()
	}
	x := opened(t, b)
	if !same(x.Label(), want) {
		t.Fatalf("the label is %v, want %v", x.Label(), want)
	}
	return b, x
}

// is holds a board's label.
func is(t testing.TB, x *Board, want label.Label) {
	t.Helper()
	if l := x.Label(); !same(l, want) {
		t.Errorf("the label is %v, want %v", l, want)
	}
}

// answers holds what a call answered.
func answers(t testing.TB, what string, e, want api.Errno) {
	t.Helper()
	if e != want {
		t.Errorf("%s: %d, want %d", what, e, want)
	}
}

// refusesOpen holds what Open answers, with no board beside it.
func refusesOpen(t testing.TB, what string, b *bay.Bay, want api.Errno) {
	t.Helper()
	if x, e := Open(b); x != nil || e != want {
		t.Errorf("%s: Open: %v, %d; want %d", what, x, e, want)
	}
}

// nexts holds what Next answers.
func nexts(t testing.TB, x *Board, member, mark int, ok bool) {
	t.Helper()
	if i, n, found := x.Next(); i != member || n != mark || found != ok {
		t.Errorf("Next: %d, %d, %v; want %d, %d, %v", i, n, found, member, mark, ok)
	}
}

// disk is all that a member is: what it has, what waits, whether it is dead.
func disk(m *member.Member) string {
	var all []string
	for at := range m.Size() {
		s, _ := m.Read(at)
		all = append(all, s)
	}
	return fmt.Sprint(m.Dead(), m.Waiting(), strings.Join(all, ""))
}

// disks are all members of a bay.
func disks(b *bay.Bay) []string {
	var all []string
	for i := range b.Size() {
		all = append(all, disk(b.Member(i)))
	}
	return all
}

// untouched holds that a call changes nothing, and makes no step.
func untouched(t testing.TB, what string, b *bay.Bay, call func()) {
	t.Helper()
	old, steps := disks(b), b.Steps()
	call()
	if !slices.Equal(disks(b), old) || b.Steps() != steps {
		t.Errorf("%s has changed the bay", what)
	}
}

func TestExample(t *testing.T) {
	b := bay.New(4, 102)
	answers(t, "Format", Format(b, g(4, 2)), api.OK)
	x := opened(t, b)
	is(t, x, lb(2, 2, "ssss"))
	answers(t, "Fail(1)", x.Fail(1), api.OK)
	is(t, x, lb(3, 2, "sfss"))
	answers(t, "Replace(1)", x.Replace(1), api.OK)
	is(t, x, lb(4, 2, "s0ss"))
	answers(t, "Advance(1, 2)", x.Advance(1, 2), api.OK)
	is(t, x, lb(5, 2, "ssss"))
}

func TestNilP17_1P17_2P17_3P17_4(t *testing.T) {
	answers(t, "Format of nil", Format(nil, g(4, 2)), api.ErrNil)
	answers(t, "Format of nil and no good geometry", Format(nil, g(3, 0)), api.ErrNil)
	refusesOpen(t, "of nil", nil, api.ErrNil)
	var x *Board
	if l := x.Label(); !reflect.DeepEqual(l, label.Label{}) {
		t.Errorf("the label of a nil board: %v", l)
	}
	nexts(t, x, 0, 0, false)
	for _, i := range ints {
		answers(t, "Fail of a nil board", x.Fail(i), api.ErrNil)
		answers(t, "Replace of a nil board", x.Replace(i), api.ErrNil)
		for _, n := range ints {
			answers(t, "Advance of a nil board", x.Advance(i, n), api.ErrNil)
		}
	}
}

// TestEmptyBoardP1: a board that Open didn't make has no members.
func TestEmptyBoardP1(t *testing.T) {
	x := &Board{}
	if l := x.Label(); l.Good() || l.Epoch != 0 {
		t.Errorf("its label: %v", l)
	}
	nexts(t, x, 0, 0, false)
	for _, i := range ints {
		answers(t, "Fail", x.Fail(i), api.ErrRange)
		answers(t, "Replace", x.Replace(i), api.ErrRange)
		answers(t, "Advance", x.Advance(i, i), api.ErrRange)
	}
}

// used is a bay each sector of which has bytes of its own, all lasting.
func used(members, sectors int) *bay.Bay {
	b := bay.New(members, sectors)
	for i := range members {
		for at := range sectors {
			b.Member(i).Rot(at, full(byte(1+(7*i+at)%255)))
		}
	}
	return b
}

// TestFormatP17_1: what each member has then, and that it lasts; all else is as it was.
func TestFormatP17_1(t *testing.T) {
	for _, x := range []geom.Geometry{g(4, 1), g(4, 2), g(5, 3), g(6, 63), g(31, 64), g(32, 64)} {
		for _, sectors := range []int{100 + x.Stripes, 101 + x.Stripes, 256} {
			b, old := used(x.Members, sectors), used(x.Members, sectors)
			answers(t, "Format", Format(b, x), api.OK)
			if steps := b.Steps(); steps != int64(x.Members*(x.Stripes+5)) {
				t.Errorf("%v: %d steps", x, steps)
			}
			b.Crash()
			fresh := sector(t, lb(1, x.Stripes, strings.Repeat("s", x.Members)))
			for i := range x.Members {
				for at := range sectors {
					want, _ := old.Read(i, at)
					switch {
					case at == 1:
						want = fresh
					case at == 0, at == 2, at == 3, at >= 100 && at < 100+x.Stripes:
						want = full(0)
					}
					if s, e := b.Read(i, at); s != want || e != api.OK {
						t.Fatalf("%v: member %d, sector %d: %q, %d; want %q", x, i, at, s, e, want)
					}
				}
			}
		}
	}
}

// TestFormatOrderP17_1: the power fails at each step: which sectors of which member were written, in which order, is just what the chapter says.
func TestFormatOrderP17_1(t *testing.T) {
	order := []int{0, 2, 3, 100, 101, 102, 1}
	each := len(order) + 1
	for n := range 5*each + 2 {
		b := used(5, 164)
		b.Cut(n)
		want := api.ErrPower
		if n >= 5*each {
			want = api.OK
		}
		answers(t, fmt.Sprintf("Format with %d steps", n), Format(b, g(5, 3)), want)
		if b.Steps() != int64(min(n, 5*each)) {
			t.Errorf("%d of %d steps were made", b.Steps(), n)
		}
		for i := range 5 {
			m, made := b.Member(i), min(max(n-i*each, 0), each)
			waiting := order[:made%each]
			if !slices.Equal(m.Waiting(), waiting) {
				t.Errorf("%d steps: %v wait on the member %d, want %v", n, m.Waiting(), i, waiting)
			}
			if c := m.Counts(); c.Flushes != int64(made/each) || c.Reads != 0 || c.Replaced != 0 {
				t.Errorf("%d steps: the member %d counts %v", n, i, c)
			}
		}
	}
}

// badGeometries aren't good.
var badGeometries = []geom.Geometry{{}, {Members: 3, Stripes: 3}, {Members: 33, Stripes: 3}, {Members: 5}, {Members: 5, Stripes: 65}, {Members: -5, Stripes: 3}, {Members: 5, Stripes: -3}, {Members: 1, Stripes: 1}, {Members: math.MaxInt, Stripes: math.MaxInt}, {Members: math.MinInt, Stripes: math.MinInt}}

func TestFormatErrorsP17_1(t *testing.T) {
	for _, bad := range badGeometries {
		b := used(5, 164)
		b.Member(4).Fail()
		b.Cut(0)
		untouched(t, "Format of no good geometry", b, func() {
			answers(t, fmt.Sprint("Format of ", bad), Format(b, bad), api.ErrForm)
		})
	}
	for _, x := range []struct {
		members, sectors int
		g                geom.Geometry
		want             api.Errno
	}{
		{5, 103, g(5, 3), api.OK}, {5, 102, g(5, 3), api.ErrArg}, {5, 1, g(5, 3), api.ErrArg}, {5, 104, g(5, 3), api.OK}, {5, 256, g(5, 64), api.OK},
		{5, 163, g(5, 64), api.ErrArg}, {5, 164, g(5, 64), api.OK}, {4, 164, g(5, 3), api.ErrArg}, {6, 164, g(5, 3), api.ErrArg}, {1, 164, g(4, 1), api.ErrArg},
		{32, 101, g(32, 1), api.OK}, {31, 101, g(32, 1), api.ErrArg}, {32, 101, g(31, 1), api.ErrArg}, {4, 101, g(4, 1), api.OK}, {4, 100, g(4, 1), api.ErrArg},
	} {
		b := used(x.members, x.sectors)
		if x.want == api.OK {
			answers(t, fmt.Sprint("Format of ", x), Format(b, x.g), api.OK)
			continue
		}
		b.Member(0).Fail()
		b.Cut(0)
		untouched(t, "Format of a bay that doesn't fit", b, func() {
			answers(t, fmt.Sprint("Format of ", x), Format(b, x.g), x.want)
		})
	}
	for i := range 5 {
		b := used(5, 164)
		b.Member(i).Fail()
		b.Cut(0)
		untouched(t, "Format of a bay with a dead member", b, func() {
			answers(t, "Format with a dead member", Format(b, g(5, 3)), api.ErrFailed)
		})
		b.Crash()
		untouched(t, "Format of a bay with a dead member", b, func() {
			answers(t, "Format with a dead member", Format(b, g(5, 3)), api.ErrFailed)
		})
		b.Member(i).Replace()
		answers(t, "Format with a member replaced", Format(b, g(5, 3)), api.OK)
	}
}

// TestFormatAgainP17_1: an array is made anew, of another geometry too, whatever its labels were.
func TestFormatAgainP17_1(t *testing.T) {
	for epoch := range int64(6) {
		b, _ := boardOf(t, lb(epoch+2, 7, "sf3s"), 1)
		b.Member(1).Replace()
		answers(t, "Format", Format(b, g(4, 9)), api.OK)
		is(t, opened(t, b), lb(2, 9, "ssss"))
	}
}

func TestOpenErrorsP17_2(t *testing.T) {
	for _, sectors := range []int{1, 2, 3, 100, 164} {
		b := bay.New(5, sectors)
		refusesOpen(t, "nothing is there", b, api.ErrNone)
		b.Cut(0)
		refusesOpen(t, "nothing, and no power", b, api.ErrPower)
		for i := range 5 {
			b.Member(i).Fail()
		}
		refusesOpen(t, "nobody, and no power", b, api.ErrFailed)
		b.Crash()
		refusesOpen(t, "nobody", b, api.ErrFailed)
	}
	b := formatted(t, 5, 3)
	for i := range 5 {
		b.Member(i).Fail()
	}
	refusesOpen(t, "nobody", b, api.ErrFailed)
	b = used(5, 164)
	refusesOpen(t, "no label", b, api.ErrNone)
	for i := range 5 {
		b.Member(i).Rot(2, sector(t, lb(7, 3, "sssss")))
	}
	refusesOpen(t, "a label in a place of none", b, api.ErrNone)
	broken := []byte(sector(t, lb(7, 3, "sssss")))
	broken[13] ^= 1
	b.Member(2).Rot(1, string(broken))
	refusesOpen(t, "a label whose sum is another one", b, api.ErrNone)
}

// TestOpenFitsP17_2: the newest label must be one of that bay; an older one that fits is no help.
func TestOpenFitsP17_2(t *testing.T) {
	for _, x := range []struct {
		members, sectors int
		l                label.Label
		want             api.Errno
	}{
		{5, 103, lb(3, 3, "sssss"), api.OK}, {5, 102, lb(3, 3, "sssss"), api.ErrArg}, {5, 2, lb(3, 3, "sssss"), api.ErrArg}, {5, 164, lb(3, 64, "sssss"), api.OK},
		{5, 163, lb(3, 64, "sssss"), api.ErrArg}, {5, 164, lb(3, 3, "ssss"), api.ErrArg}, {5, 164, lb(3, 3, "ssssss"), api.ErrArg}, {4, 256, lb(3, 3, "ssss"), api.OK},
		{5, 164, lb(most, 3, "ssss"), api.ErrArg}, {1, 164, lb(3, 3, "ssss"), api.ErrArg}, {32, 164, lb(4, 3, strings.Repeat("s", 32)), api.OK},
	} {
		b := used(x.members, x.sectors)
		if x.members > 3 {
			lay(t, b, 0, lb(1, 1, strings.Repeat("s", x.members)))
			lay(t, b, x.members-1, lb(2, 1, strings.Repeat("s", x.members)))
		}
		lay(t, b, x.members/2, x.l)
		if x.want == api.OK {
			x.l.Epoch++
			is(t, opened(t, b), x.l)
			continue
		}
		untouched(t, "Open of a bay that doesn't fit", b, func() {
			refusesOpen(t, fmt.Sprint(x), b, x.want)
		})
	}
}

// TestOpenNewestP17_2: it is found wherever it is, in either place of any member that is live.
func TestOpenNewestP17_2(t *testing.T) {
	for who := range 5 {
		for epoch := int64(3); epoch < 9; epoch++ {
			b := used(5, 164)
			for i := range 5 {
				lay(t, b, i, lb(1, 3, "sssss"))
				lay(t, b, i, lb(2, 3, "ssssf"))
			}
			lay(t, b, who, lb(epoch, 7, "s4sfs"))
			is(t, opened(t, b), lb(epoch+1, 7, "s4sfs"))
			b.Crash() // what was published lasts on all of them
			for i := range 5 {
				if s, _ := b.Read(i, int(epoch+1)%2); s != sector(t, lb(epoch+1, 7, "s4sfs")) {
					t.Errorf("the member %d has not what Open told", i)
				}
			}
		}
	}
	// The labels of the dead don't count, nor do those that aren't whole.
	b := used(5, 164)
	lay(t, b, 1, lb(9, 3, "sssss"))
	lay(t, b, 3, lb(4, 3, "sss1s"))
	b.Member(2).Rot(0, sector(t, lb(8, 3, "sssss"))[:63]+"x")
	b.Member(1).Fail()
	is(t, opened(t, b), lb(5, 3, "sfs1s"))
}

// TestOpenFirstOfEqualP17_2: of labels of one Epoch the first one's counts, members rising, and of each the sector 0 first.
func TestOpenFirstOfEqualP17_2(t *testing.T) {
	b := used(5, 164)
	lay(t, b, 1, lb(6, 3, "s1sss"))
	lay(t, b, 2, lb(6, 3, "ss2ss"))
	lay(t, b, 4, lb(6, 3, "ssss1"))
	is(t, opened(t, b), lb(7, 3, "s1sss"))
	b = used(5, 164)
	b.Member(3).Rot(1, sector(t, lb(6, 3, "sss2s")))
	b.Member(3).Rot(0, sector(t, lb(6, 3, "sss1s")))
	lay(t, b, 4, lb(6, 3, "ssss1"))
	is(t, opened(t, b), lb(7, 3, "sss1s"))
}

// TestOpenReadsP17_2: of each live member both sectors are read, once, also if there are no such ones elsewhere; and no other one.
func TestOpenReadsP17_2(t *testing.T) {
	b := formatted(t, 5, 3)
	b.Member(0).Fail()
	b.Member(3).Fail()
	opened(t, b)
	for i, want := range []int64{0, 2, 2, 0, 2} {
		if c := b.Member(i).Counts(); c.Reads != want {
			t.Errorf("the member %d was read %d times, want %d", i, c.Reads, want)
		}
	}
	// Of members of one sector the other one can't be read: that is passed over.
	small := bay.New(4, 1)
	small.Member(3).Rot(0, sector(t, lb(2, 3, "ssss")))
	refusesOpen(t, "members of one sector", small, api.ErrArg)
	for i := range 4 {
		if c := small.Member(i).Counts(); c.Reads != 1 || c.Writes != 0 {
			t.Errorf("the member %d counts %v", i, c)
		}
	}
}

// TestOpenDeadP17_2: whoever is dead is Failed then, whatever it was; whoever isn't stays what it was.
func TestOpenDeadP17_2(t *testing.T) {
	const states = "sf03s2f1"
	for dead := range 255 {
		b := used(8, 164)
		for i := range 8 {
			lay(t, b, i, lb(11, 4, states))
		}
		want := []byte(states)
		for i := range 8 {
			if dead>>i&1 == 1 {
				b.Member(i).Fail()
				want[i] = 'f'
			}
		}
		x := opened(t, b)
		is(t, x, lb(12, 4, string(want)))
		// All who are live have that, lasting; nothing else was done to any.
		live := b.Live()
		if b.Steps() != int64(2*len(live)) {
			t.Errorf("%b dead: %d steps", dead, b.Steps())
		}
		b.Crash()
		for _, i := range live {
			if s, _ := b.Read(i, 0); s != sector(t, lb(12, 4, string(want))) {
				t.Errorf("%b dead: the member %d has not the label", dead, i)
			}
			if s, _ := b.Read(i, 1); s != sector(t, lb(11, 4, states)) {
				t.Errorf("%b dead: the member %d hasn't the label before any more", dead, i)
			}
		}
	}
}

// TestOpenPublishesP17_2: each Open publishes, also if nothing is other than it was; into both places in turn.
func TestOpenPublishesP17_2(t *testing.T) {
	b := formatted(t, 4, 2)
	for epoch := int64(2); epoch < 12; epoch++ {
		steps := b.Steps()
		is(t, opened(t, b), lb(epoch, 2, "ssss"))
		if b.Steps() != steps+8 {
			t.Errorf("%d steps", b.Steps()-steps)
		}
		for i := range 4 {
			now, _ := b.Read(i, int(epoch)%2)
			old, _ := b.Read(i, int(epoch+1)%2)
			if now != sector(t, lb(epoch, 2, "ssss")) || old != sector(t, lb(epoch-1, 2, "ssss")) {
				t.Errorf("the labels of the member %d behind the Epoch %d aren't the last two", i, epoch)
			}
		}
	}
}

// TestOpenPowerP17_2: the power fails at each step of Open: ErrPower, no board, and the steps up to there.
func TestOpenPowerP17_2(t *testing.T) {
	for n := range 10 {
		b := formatted(t, 5, 3)
		b.Member(1).Fail()
		b.Cut(n)
		if n < 8 {
			refusesOpen(t, fmt.Sprint(n, " steps"), b, api.ErrPower)
		} else {
			is(t, opened(t, b), lb(2, 3, "sfsss"))
		}
		checkPublishing(t, b, []int{0, 2, 3, 4}, 0, n)
	}
}

// checkPublishing holds what n steps of the publishing of a label have left on live members: each is written to and flushed ahead of the next one.
func checkPublishing(t *testing.T, b *bay.Bay, live []int, at, n int) {
	t.Helper()
	for k, i := range live {
		var want []int
		if n == 2*k+1 {
			want = []int{at}
		}
		if w := b.Member(i).Waiting(); !slices.Equal(w, want) {
			t.Errorf("behind %d steps %v wait on the member %d, want %v", n, w, i, want)
		}
	}
}

// TestOpenFullP17_2: there is no Epoch for what Open publishes.
func TestOpenFullP17_2(t *testing.T) {
	b := used(5, 164)
	lay(t, b, 3, lb(most, 3, "sf1ss"))
	b.Member(0).Fail()
	untouched(t, "Open at the greatest Epoch", b, func() {
		refusesOpen(t, "the greatest Epoch", b, api.ErrFull)
	})
	b.Cut(0)
	refusesOpen(t, "the greatest Epoch, and no power", b, api.ErrPower)
	b.Crash()
	b.Member(3).Rot(0, full(0))
	lay(t, b, 3, lb(most-1, 3, "sf1ss"))
	is(t, opened(t, b), lb(most, 3, "ff1ss"))
	refusesOpen(t, "the greatest Epoch", b, api.ErrFull)
}

// TestLabelP17_3: what is told has lists of its own, and telling changes nothing.
func TestLabelP17_3(t *testing.T) {
	b, x := boardOf(t, lb(7, 5, "s2sf"), 3)
	untouched(t, "Label", b, func() {
		l, k := x.Label(), x.Label()
		for i := range 4 {
			l.States[i], l.Marks[i] = label.Rebuilding, 9
		}
		l.Epoch, l.Members = 99, 99
		_, _ = append(l.States[:0], 1, 2), append(l.Marks[:0], 3, 4)
		if !same(k, lb(7, 5, "s2sf")) {
			t.Errorf("another answer is %v then", k)
		}
	})
	is(t, x, lb(7, 5, "s2sf"))
	answers(t, "Advance", x.Advance(1, 3), api.OK)
	old := x.Label()
	answers(t, "Advance", x.Advance(1, 4), api.OK)
	if !same(old, lb(8, 5, "s3sf")) {
		t.Errorf("what was told is %v then", old)
	}
}

// TestRangeP17_3P17_4: members that aren't there.
func TestRangeP17_3P17_4(t *testing.T) {
	b, x := boardOf(t, lb(7, 5, "s2sf0"), 3)
	for _, i := range ints {
		if i >= 0 && i < 5 {
			continue
		}
		untouched(t, "a call of no member", b, func() {
			answers(t, fmt.Sprintf("Fail(%d)", i), x.Fail(i), api.ErrRange)
			answers(t, fmt.Sprintf("Replace(%d)", i), x.Replace(i), api.ErrRange)
			for _, n := range ints {
				answers(t, fmt.Sprintf("Advance(%d, %d)", i, n), x.Advance(i, n), api.ErrRange)
			}
		})
	}
	is(t, x, lb(7, 5, "s2sf0"))
}

func TestFailP17_3(t *testing.T) {
	for i := range 5 {
		for _, states := range []string{"sssss", "12304", "s0s0s"} {
			b, x := boardOf(t, lb(7, 5, states))
			b.Write(i, 50, full('w')) // it waits, and is lost with the member
			steps := b.Steps()
			answers(t, "Fail", x.Fail(i), api.OK)
			want := []byte(states)
			want[i] = 'f'
			is(t, x, lb(8, 5, string(want)))
			if !b.Member(i).Dead() || len(b.Member(i).Waiting()) != 0 || len(b.Live()) != 4 {
				t.Errorf("the member %d isn't dead", i)
			}
			if b.Steps() != steps+8 {
				t.Errorf("%d steps, want 8: the dead one has no label", b.Steps()-steps)
			}
			b.Crash()
			for _, k := range b.Live() {
				if s, _ := b.Read(k, 0); s != sector(t, lb(8, 5, string(want))) {
					t.Errorf("the member %d has not the label", k)
				}
			}
			// Once more: nothing is published.
			untouched(t, "Fail of one that is Failed and dead", b, func() {
				answers(t, "Fail", x.Fail(i), api.OK)
			})
			b.Cut(0)
			answers(t, "Fail of one that is Failed and dead, without power", x.Fail(i), api.OK)
			is(t, x, lb(8, 5, string(want)))
		}
	}
}

// TestFailHalfP17_3: one that is dead and not Failed, or Failed and not dead, is both then, and that is published.
func TestFailHalfP17_3(t *testing.T) {
	b, x := boardOf(t, lb(7, 5, "ss3ff"), 4)
	b.Member(1).Fail()
	b.Member(2).Fail()
	answers(t, "Fail of a dead one", x.Fail(1), api.OK)
	is(t, x, lb(8, 5, "sf3ff"))
	answers(t, "Fail of a dead one that is Rebuilding", x.Fail(2), api.OK)
	is(t, x, lb(9, 5, "sffff"))
	answers(t, "Fail of a Failed one that is live", x.Fail(3), api.OK)
	is(t, x, lb(10, 5, "sffff"))
	if !b.Member(3).Dead() {
		t.Error("it is live")
	}
	answers(t, "Fail of a Failed one that is dead", x.Fail(4), api.OK)
	is(t, x, lb(10, 5, "sffff"))
	// The last one: the label is published to nobody, and the board has it.
	answers(t, "Fail of the last one", x.Fail(0), api.OK)
	is(t, x, lb(11, 5, "fffff"))
	refusesOpen(t, "all are dead", b, api.ErrFailed)
}

func TestReplaceP17_3(t *testing.T) {
	for i := range 5 {
		b, x := boardOf(t, lb(7, 5, "sssss"))
		for k := range 5 {
			b.Member(k).Rot(100, full('d'))
		}
		answers(t, "Replace of one that is InSync", x.Replace(i), api.ErrState)
		answers(t, "Fail", x.Fail(i), api.OK)
		steps := b.Steps()
		answers(t, "Replace", x.Replace(i), api.OK)
		want := []byte("sssss")
		want[i] = '0'
		is(t, x, lb(9, 5, string(want)))
		m := b.Member(i)
		if m.Dead() || m.Counts().Replaced != 1 || b.Steps() != steps+10 {
			t.Errorf("dead %v, replaced %d times, %d steps", m.Dead(), m.Counts().Replaced, b.Steps()-steps)
		}
		b.Crash()
		for k := range 5 {
			if s, _ := b.Read(k, 1); s != sector(t, lb(9, 5, string(want))) {
				t.Errorf("the member %d has not the label", k)
			}
			data := full('d')
			if k == i {
				data = full(0)
			}
			if s, _ := b.Read(k, 100); s != data {
				t.Errorf("the member %d has %q", k, s)
			}
		}
		untouched(t, "Replace of one that is Rebuilding", b, func() {
			answers(t, "Replace of one that is Rebuilding", x.Replace(i), api.ErrState)
		})
	}
}

// TestReplaceStateP17_3: it is the label that counts, not whether the member is dead.
func TestReplaceStateP17_3(t *testing.T) {
	b, x := boardOf(t, lb(7, 5, "ss3ff"), 4)
	b.Member(1).Fail()
	b.Member(2).Fail()
	for _, i := range []int{0, 1, 2} {
		untouched(t, "Replace of one that isn't Failed", b, func() {
			answers(t, fmt.Sprintf("Replace(%d)", i), x.Replace(i), api.ErrState)
		})
	}
	is(t, x, lb(7, 5, "ss3ff"))
	b.Member(3).Rot(101, full('d'))
	answers(t, "Replace of a Failed one that is live", x.Replace(3), api.OK)
	is(t, x, lb(8, 5, "ss30f"))
	if s, _ := b.Read(3, 101); s != full(0) {
		t.Errorf("the one that was replaced has %q", s)
	}
	answers(t, "Replace of a Failed one that is dead", x.Replace(4), api.OK)
	is(t, x, lb(9, 5, "ss300"))
	// Its Mark counts from 0 on, also of one that was well on.
	answers(t, "Fail", x.Fail(2), api.OK)
	answers(t, "Replace", x.Replace(2), api.OK)
	is(t, x, lb(11, 5, "ss000"))
}

func TestAdvanceP17_4(t *testing.T) {
	for from := range 5 {
		for to := from; to <= 5; to++ {
			states := fmt.Sprintf("s%df1s", from)
			b, x := boardOf(t, lb(7, 5, states), 2)
			steps := b.Steps()
			answers(t, fmt.Sprintf("Advance(1, %d)", to), x.Advance(1, to), api.OK)
			want := fmt.Sprintf("s%df1s", to)
			if to == 5 {
				want = "ssf1s"
			}
			is(t, x, lb(8, 5, want))
			if b.Steps() != steps+8 {
				t.Errorf("%d steps, want 8", b.Steps()-steps)
			}
			b.Crash()
			is(t, opened(t, b), lb(9, 5, want))
		}
	}
}

func TestAdvanceErrorsP17_4(t *testing.T) {
	b, x := boardOf(t, lb(7, 5, "s2f0s"), 2)
	for i, state := range "s2f0s" {
		mark := 0
		if state >= '0' && state <= '9' {
			mark = int(state - '0')
		}
		for _, n := range ints {
			what := fmt.Sprintf("Advance(%d, %d)", i, n)
			switch {
			case n < mark || n > 5:
				untouched(t, what, b, func() { answers(t, what, x.Advance(i, n), api.ErrRange) })
			case state == 's' || state == 'f':
				untouched(t, what, b, func() { answers(t, what, x.Advance(i, n), api.ErrState) })
			}
		}
	}
	is(t, x, lb(7, 5, "s2f0s"))
	answers(t, "Advance", x.Advance(1, 4), api.OK)
	answers(t, "Advance back", x.Advance(1, 3), api.ErrRange)
	answers(t, "Advance", x.Advance(1, 5), api.OK)
	answers(t, "Advance of one that is InSync by then", x.Advance(1, 5), api.ErrState)
	is(t, x, lb(9, 5, "ssf0s"))
	answers(t, "Advance of what only then is behind the end", x.Advance(3, 6), api.ErrRange)
	// It is the label that counts, not whether the member is dead.
	b.Member(3).Fail()
	answers(t, "Advance of a dead one", x.Advance(3, 1), api.OK)
	is(t, x, lb(10, 5, "ssf1s"))
}

// TestOneStripeP17_4: the least and the most stripes.
func TestOneStripeP17_4(t *testing.T) {
	_, x := boardOf(t, lb(7, 1, "s0fs"), 2)
	answers(t, "Advance", x.Advance(1, 0), api.OK)
	is(t, x, lb(8, 1, "s0fs"))
	answers(t, "Advance", x.Advance(1, 2), api.ErrRange)
	answers(t, "Advance", x.Advance(1, 1), api.OK)
	is(t, x, lb(9, 1, "ssfs"))
	_, x = boardOf(t, lb(7, 64, "s0fs"), 2)
	for n := 1; n < 64; n++ {
		answers(t, "Advance", x.Advance(1, n), api.OK)
		nexts(t, x, 1, n, true)
	}
	answers(t, "Advance", x.Advance(1, 65), api.ErrRange)
	answers(t, "Advance", x.Advance(1, 64), api.OK)
	is(t, x, lb(71, 64, "ssfs"))
}

func TestNextP17_4(t *testing.T) {
	for _, x := range []struct {
		states string
		dead   []int
		member int
		mark   int
		ok     bool
	}{
		{"sssss", nil, 0, 0, false}, {"sfsfs", nil, 0, 0, false}, {"sfsfs", []int{1, 3}, 0, 0, false},
		{"0ssss", nil, 0, 0, true}, {"ssss4", nil, 4, 4, true}, {"s3s2s", nil, 3, 2, true}, {"s2s3s", nil, 1, 2, true},
		{"s2f2s", nil, 1, 2, true}, {"43210", nil, 4, 0, true}, {"44444", nil, 0, 4, true}, {"43131", nil, 2, 1, true},
		{"43131", []int{2}, 4, 1, true}, {"43131", []int{2, 4}, 1, 3, true}, {"43131", []int{1, 2, 3, 4}, 0, 4, true},
		{"00000", []int{0}, 1, 0, true}, {"s0s3s", []int{1}, 3, 3, true}, {"s0s3s", []int{1, 3}, 0, 0, false}, {"fs4ff", nil, 2, 4, true},
	} {
		b, y := boardOf(t, lb(7, 5, x.states))
		for _, i := range x.dead {
			b.Member(i).Fail() // behind Open, so that the label doesn't know
		}
		untouched(t, "Next", b, func() { nexts(t, y, x.member, x.mark, x.ok) })
		is(t, y, lb(7, 5, x.states))
		b.Cut(0)
		nexts(t, y, x.member, x.mark, x.ok)
	}
}

// TestPublishingP17_3P17_4: the power fails at each step of each call that publishes: ErrPower is told, the board has what it had, and what was published is on the first ones.
func TestPublishingP17_3P17_4(t *testing.T) {
	for _, x := range []struct {
		call func(x *Board) api.Errno
		live []int
		want string
	}{
		{func(x *Board) api.Errno { return x.Fail(0) }, []int{1, 3, 4}, "f2f1s"},
		{func(x *Board) api.Errno { return x.Fail(1) }, []int{0, 3, 4}, "sff1s"},
		{func(x *Board) api.Errno { return x.Replace(2) }, []int{0, 1, 2, 3, 4}, "s201s"},
		{func(x *Board) api.Errno { return x.Advance(1, 3) }, []int{0, 1, 3, 4}, "s3f1s"},
		{func(x *Board) api.Errno { return x.Advance(3, 5) }, []int{0, 1, 3, 4}, "s2fss"},
	} {
		for epoch := int64(7); epoch < 9; epoch++ {
			for n := range 2*len(x.live) + 2 {
				b, y := boardOf(t, lb(epoch, 5, "s2f1s"), 2)
				b.Cut(n)
				e := x.call(y)
				want, on := api.ErrPower, lb(epoch, 5, "s2f1s")
				if n >= 2*len(x.live) {
					want, on = api.OK, lb(epoch+1, 5, x.want)
				}
				answers(t, fmt.Sprintf("%s with %d steps", x.want, n), e, want)
				is(t, y, on)
				checkPublishing(t, b, x.live, int(epoch+1)%2, n)
				if !slices.Equal(b.Live(), x.live) {
					t.Errorf("%v are live, want %v", b.Live(), x.live)
				}
				// None of what waits is kept: those who were flushed have the label.
				b.Crash()
				for k, i := range x.live {
					s, _ := b.Read(i, int(epoch+1)%2)
					if has := s == sector(t, lb(epoch+1, 5, x.want)); has != (n >= 2*k+2) {
						t.Errorf("behind %d steps the member %d has the label: %v", n, i, has)
					}
				}
				// With power again the same call does all of it.
				if want == api.ErrPower {
					answers(t, "once more", x.call(y), api.OK)
				}
				is(t, y, lb(epoch+1, 5, x.want))
			}
		}
	}
}

// TestFullP17_3P17_4: at the greatest Epoch nothing is published any more.
func TestFullP17_3P17_4(t *testing.T) {
	b, x := boardOf(t, lb(most, 5, "s2f1sf"), 2)
	for range 2 { // with power, and without
		for _, y := range []struct {
			what string
			e    func() api.Errno
			want api.Errno
		}{
			{"Replace(2)", func() api.Errno { return x.Replace(2) }, api.ErrFull},
			{"Replace(5)", func() api.Errno { return x.Replace(5) }, api.ErrFull},
			{"Replace(0)", func() api.Errno { return x.Replace(0) }, api.ErrState},
			{"Replace(6)", func() api.Errno { return x.Replace(6) }, api.ErrRange},
			{"Advance(1, 2)", func() api.Errno { return x.Advance(1, 2) }, api.ErrFull},
			{"Advance(1, 5)", func() api.Errno { return x.Advance(1, 5) }, api.ErrFull},
			{"Advance(1, 1)", func() api.Errno { return x.Advance(1, 1) }, api.ErrRange},
			{"Advance(2, 0)", func() api.Errno { return x.Advance(2, 0) }, api.ErrState},
			{"Fail(2)", func() api.Errno { return x.Fail(2) }, api.OK},
			{"Fail(-1)", func() api.Errno { return x.Fail(-1) }, api.ErrRange},
		} {
			untouched(t, y.what, b, func() { answers(t, y.what, y.e(), y.want) })
		}
		b.Cut(0)
	}
	b.Crash()
	is(t, x, lb(most, 5, "s2f1sf"))
	// A member that fails is dead all the same; the label can't say it.
	steps := b.Steps()
	answers(t, "Fail(0)", x.Fail(0), api.ErrFull)
	answers(t, "Fail(5)", x.Fail(5), api.ErrFull)
	is(t, x, lb(most, 5, "s2f1sf"))
	if !slices.Equal(b.Live(), []int{1, 3, 4}) || b.Steps() != steps {
		t.Errorf("%v are live, %d steps", b.Live(), b.Steps()-steps)
	}
	// One below it there is one more.
	_, x = boardOf(t, lb(most-1, 5, "s2f1sf"), 2)
	answers(t, "Advance(1, 5)", x.Advance(1, 5), api.OK)
	is(t, x, lb(most, 5, "ssf1sf"))
	answers(t, "Advance(3, 5)", x.Advance(3, 5), api.ErrFull)
}

// keeps are ways to keep writes that didn't last, of a bay of five.
func keeps() [][][]uint64 {
	all := []uint64{^uint64(0)}
	return [][][]uint64{nil, {all, all, all, all, all}, {all}, {nil, all}, {nil, nil, all}, {nil, nil, nil, all}, {nil, nil, nil, nil, all}, {{2}, {2}, {2}, {2}, {2}}}
}

// tellsP17_5 holds that Open tells one of two labels: their states and Marks, but for those who are dead.
func tellsP17_5(t *testing.T, what string, b *bay.Bay, last, underWay label.Label) *Board {
	t.Helper()
	x := opened(t, b)
	got := x.Label()
	for _, may := range []label.Label{last, underWay} {
		want := may.Copy()
		want.Epoch++
		for i := range want.Members {
			if b.Member(i).Dead() {
				want.States[i], want.Marks[i] = label.Failed, 0
			}
		}
		if same(got, want) {
			return x
		}
	}
	t.Fatalf("%s: Open tells %v; the last one was %v, under way %v", what, got, last, underWay)
	return nil
}

// TestAnyStepP17_5: the power fails at any step of any call, any of what waits is kept, and members die meanwhile: Open tells the label published last, or that under way; the latter, if the call was OK.
func TestAnyStepP17_5(t *testing.T) {
	for _, x := range []struct {
		call func(x *Board) api.Errno
		want string
	}{
		{func(x *Board) api.Errno { return x.Fail(0) }, "f2f1s"},
		{func(x *Board) api.Errno { return x.Fail(3) }, "s2ffs"},
		{func(x *Board) api.Errno { return x.Replace(2) }, "s201s"},
		{func(x *Board) api.Errno { return x.Advance(1, 3) }, "s3f1s"},
		{func(x *Board) api.Errno { return x.Advance(3, 5) }, "s2fss"},
	} {
		for n := range 11 {
			for k, kept := range keeps() {
				for dies := range 5 {
					b, y := boardOf(t, lb(7, 5, "s2f1s"), 2)
					b.Cut(n)
					e := x.call(y)
					b.Crash(kept...)
					if dies < 4 {
						b.Member(dies).Fail()
					}
					last, underWay := lb(7, 5, "s2f1s"), lb(8, 5, x.want)
					if e == api.OK {
						last = underWay
					}
					what := fmt.Sprintf("%s, %d steps, the way %d of keeping, %d dies", x.want, n, k, dies)
					z := tellsP17_5(t, what, b, last, underWay)
					// And it goes on from there: the next one finds the same.
					b.Crash()
					tellsP17_5(t, what, b, z.Label(), z.Label())
				}
			}
		}
	}
}

// TestFurtherOnesP17_5: the power fails again, at any step of the Open, and of one more.
func TestFurtherOnesP17_5(t *testing.T) {
	random := rand.New(rand.NewSource(17))
	keep := func() [][]uint64 {
		return keeps()[random.Intn(len(keeps()))]
	}
	for n := range 9 {
		for second := range 9 {
			for third := range 9 {
				b, x := boardOf(t, lb(7, 5, "s2f1s"), 2)
				b.Cut(n)
				e := x.Advance(3, 5)
				b.Crash(keep()...)
				b.Cut(second)
				Open(b)
				b.Crash(keep()...)
				b.Cut(third)
				Open(b)
				b.Crash(keep()...)
				got := states(opened(t, b).Label())
				if got != "s2fss" && (got != "s2f1s" || e == api.OK) {
					t.Fatalf("%d, %d, %d steps: %s", n, second, third, got)
				}
			}
		}
	}
}

// states are those of a label, written as lb takes them.
func states(l label.Label) string {
	all := ""
	for i, state := range l.States {
		switch state {
		case label.InSync:
			all += "s"
		case label.Failed:
			all += "f"
		default:
			all += fmt.Sprint(l.Marks[i])
		}
	}
	return all
}

// history is an array through many calls and losses of power, and what of it must be so.
type history struct {
	random *rand.Rand
	b      *bay.Bay
	x      *Board
	last   label.Label // published last
	empty  []int       // of each member the least stripe that wasn't rebuilt since it was replaced; Stripes of those who never were
}

// crash brings the power back, with some of what waited kept.
func (h *history) crash() {
	var kept [][]uint64
	for range h.b.Size() {
		kept = append(kept, []uint64{h.random.Uint64()})
	}
	h.b.Crash(kept...)
}

// call is a call that publishes, as its label then is to be; a member that is replaced has nothing.
func (h *history) call() (label.Label, api.Errno) {
	want, i := h.last.Copy(), h.random.Intn(h.b.Size())
	want.Epoch++
	stripes := want.Stripes
	mark := want.Marks[i] + h.random.Intn(stripes-want.Marks[i]+1)
	switch {
	case want.States[i] == label.Failed:
		want.States[i] = label.Rebuilding
		h.empty[i] = 0
		return want, h.x.Replace(i)
	case want.States[i] == label.Rebuilding && h.random.Intn(6) > 0:
		want.Marks[i], h.empty[i] = mark, max(h.empty[i], mark)
		if mark == stripes {
			want.States[i], want.Marks[i] = label.InSync, 0
		}
		return want, h.x.Advance(i, mark)
	}
	// So many stay that labels are to be had.
	if len(h.b.Live()) <= 3 {
		return h.last, api.OK
	}
	want.States[i], want.Marks[i] = label.Failed, 0
	return want, h.x.Fail(i)
}

// reopen opens the array behind losses of power, till it is open.
func (h *history) reopen(t *testing.T, underWay label.Label) {
	t.Helper()
	h.crash()
	for h.random.Intn(2) == 0 {
		h.b.Cut(h.random.Intn(14))
		x, e := Open(h.b)
		if e == api.OK {
			h.last, underWay = x.Label(), x.Label()
		} else if e != api.ErrPower {
			t.Fatalf("Open: %d", e)
		}
		h.crash()
	}
	x := opened(t, h.b)
	if got := states(x.Label()); got != h.dead(h.last) && got != h.dead(underWay) {
		t.Fatalf("Open tells %s; the last one was %s, under way %s", got, states(h.last), states(underWay))
	}
	h.x, h.last = x, x.Label()
}

// dead are a label's states with all who are dead as Failed.
func (h *history) dead(l label.Label) string {
	l = l.Copy()
	for i := range l.Members {
		if h.b.Member(i).Dead() {
			l.States[i], l.Marks[i] = label.Failed, 0
		}
	}
	return states(l)
}

// TestLongRunP17_5: through many calls and losses of power Open tells the label it should, and whoever is told as InSync was never replaced, or rebuilt whole.
func TestLongRunP17_5(t *testing.T) {
	for seed := range int64(60) {
		h := &history{random: rand.New(rand.NewSource(seed))}
		members, stripes := 4+h.random.Intn(4), 1+h.random.Intn(5)
		h.b = formatted(t, members, stripes)
		h.x = opened(t, h.b)
		h.last = h.x.Label()
		for range members {
			h.empty = append(h.empty, stripes)
		}
		for round := range 120 {
			cut := h.random.Intn(3) == 0
			if cut {
				h.b.Cut(h.random.Intn(2*members + 1))
			}
			want, e := h.call()
			if e == api.OK {
				h.last = want
			} else if e != api.ErrPower {
				t.Fatalf("seed %d, round %d: %d", seed, round, e)
			}
			if !same(h.x.Label(), h.last) {
				t.Fatalf("seed %d, round %d: the label is %v, want %v", seed, round, h.x.Label(), h.last)
			}
			if cut || h.random.Intn(5) == 0 {
				h.reopen(t, want)
			}
			for i, state := range h.last.States {
				if state == label.InSync && h.empty[i] < stripes {
					t.Fatalf("seed %d, round %d: the member %d is told as InSync, and has but %d stripes", seed, round, i, h.empty[i])
				}
				if state == label.Rebuilding && h.empty[i] < h.last.Marks[i] {
					t.Fatalf("seed %d, round %d: the member %d is told as rebuilt up to %d, and has but %d stripes", seed, round, i, h.last.Marks[i], h.empty[i])
				}
			}
		}
	}
}

// plain is a board by the chapter's words: what a call publishes is a row of steps that is reckoned ahead. Without a label it is none.
type plain struct {
	b *bay.Bay
	l label.Label
}

// step is a Write of a bay, or a Flush, of which the sector is -1.
type step struct {
	member, at int
	bytes      string
}

// take takes steps up to the first one that may not go wrong and does.
func take(b *bay.Bay, steps []step) api.Errno {
	for _, x := range steps {
		e := api.OK
		if x.at < 0 {
			e = b.Flush(x.member)
		} else {
			e = b.Write(x.member, x.at, x.bytes)
		}
		if e == api.ErrPower {
			return e
		}
	}
	return api.OK
}

// fitting: has a bay as many members, with enough sectors? (All of a bay have as many.)
func fitting(b *bay.Bay, x geom.Geometry) bool {
	return b.Size() == x.Members && b.Member(0).Size() >= 100+x.Stripes
}

func plainFormat(b *bay.Bay, x geom.Geometry) api.Errno {
	l, e := label.New(x)
	switch {
	case e != api.OK:
		return api.ErrForm
	case !fitting(b, x):
		return api.ErrArg
	case len(b.Live()) != b.Size():
		return api.ErrFailed
	}
	s, _ := label.Put(l)
	var steps []step
	for i := range x.Members {
		steps = append(steps, step{i, 0, full(0)}, step{i, 2, full(0)}, step{i, 3, full(0)})
		for at := 100; at < 100+x.Stripes; at++ {
			steps = append(steps, step{i, at, full(0)})
		}
		steps = append(steps, step{i, 1, s}, step{i, -1, ""})
	}
	return take(b, steps)
}

func plainOpen(b *bay.Bay) (*plain, api.Errno) {
	if len(b.Live()) == 0 {
		return nil, api.ErrFailed
	}
	if b.Off() {
		return nil, api.ErrPower
	}
	p := &plain{b: b}
	for _, i := range b.Live() {
		for _, at := range []int{0, 1} {
			s, _ := b.Read(i, at)
			if l, e := label.Get(s); e == api.OK && l.Epoch > p.l.Epoch {
				p.l = l
			}
		}
	}
	if p.l.Epoch == 0 {
		return nil, api.ErrNone
	}
	if !fitting(b, p.l.Geometry) {
		return nil, api.ErrArg
	}
	e := p.publish(func(l label.Label) {
		for i := range l.Members {
			if b.Member(i).Dead() {
				l.States[i], l.Marks[i] = label.Failed, 0
			}
		}
	})
	if e != api.OK {
		return nil, e
	}
	return p, api.OK
}

func (p *plain) publish(change func(l label.Label)) api.Errno {
	if p.l.Epoch == most {
		return api.ErrFull
	}
	l := p.l.Copy()
	change(l)
	l.Epoch++
	s, e := label.Put(l)
	if e != api.OK {
		panic(e)
	}
	var steps []step
	for _, i := range p.b.Live() {
		steps = append(steps, step{i, int(l.Epoch) & 1, s}, step{i, -1, ""})
	}
	if e := take(p.b, steps); e != api.OK {
		return e
	}
	p.l = l
	return api.OK
}

func (p *plain) fail(i int) api.Errno {
	if i < 0 || i >= p.l.Members {
		return api.ErrRange
	}
	if p.l.States[i] == label.Failed && p.b.Member(i).Dead() {
		return api.OK
	}
	p.b.Member(i).Fail()
	return p.publish(func(l label.Label) { l.States[i], l.Marks[i] = label.Failed, 0 })
}

func (p *plain) replace(i int) api.Errno {
	switch {
	case i < 0 || i >= p.l.Members:
		return api.ErrRange
	case p.l.States[i] != label.Failed:
		return api.ErrState
	case p.l.Epoch == most:
		return api.ErrFull
	}
	p.b.Member(i).Replace()
	return p.publish(func(l label.Label) { l.States[i], l.Marks[i] = label.Rebuilding, 0 })
}

func (p *plain) advance(i, stripes int) api.Errno {
	switch {
	case i < 0 || i >= p.l.Members || stripes < p.l.Marks[i] || stripes > p.l.Stripes:
		return api.ErrRange
	case p.l.States[i] != label.Rebuilding:
		return api.ErrState
	}
	return p.publish(func(l label.Label) {
		l.Marks[i] = stripes
		if stripes == l.Stripes {
			l.States[i], l.Marks[i] = label.InSync, 0
		}
	})
}

// next looks for the least Mark from 0 on.
func (p *plain) next() (int, int, bool) {
	for mark := range p.l.Stripes {
		for i := range p.l.Members {
			if p.l.States[i] == label.Rebuilding && p.l.Marks[i] == mark && !p.b.Member(i).Dead() {
				return i, mark, true
			}
		}
	}
	return 0, 0, false
}

// both calls a board and the plain one alike, each on a bay of its own, step by step of a script.
type both struct {
	b, c   *bay.Bay
	x      *Board
	p      *plain
	script []byte
}

// number is the script's next one, below end; 0 behind its end.
func (y *both) number(end int) int {
	if len(y.script) == 0 {
		return 0
	}
	n := int(y.script[0]) % end
	y.script = y.script[1:]
	return n
}

// each does something to both bays.
func (y *both) each(do func(b *bay.Bay)) {
	do(y.b)
	do(y.c)
}

// open opens both; without an array there is no board, and the calls of a nil one are held elsewhere.
func (y *both) open(t *testing.T) {
	x, e := Open(y.b)
	p, f := plainOpen(y.c)
	if e != f || (x == nil) != (p == nil) {
		t.Fatalf("Open: %v, %d; want %v, %d", x, e, p, f)
	}
	y.x, y.p = x, p
}

// rot lays any label somewhere, or other bytes.
func (y *both) rot() {
	l, e := label.New(g(y.b.Size()+y.number(9)/8, 1+y.number(4)))
	if e != api.OK {
		return
	}
	l.Epoch = int64(1 + y.number(9))
	if y.number(3) == 1 {
		l.Epoch = most - l.Epoch + 1
	}
	for i := range l.Members {
		l.States[i] = label.State(y.number(3))
		if l.States[i] == label.Rebuilding {
			l.Marks[i] = y.number(l.Stripes)
		}
	}
	s, _ := label.Put(l)
	i, at := y.number(y.b.Size()), y.number(2)
	if y.number(4) == 1 {
		s = full(byte(at))
	}
	y.each(func(b *bay.Bay) { b.Member(i).Rot(at, s) })
}

// power does something to both bays, or to a member of them.
func (y *both) power() {
	switch y.number(4) {
	case 0:
		steps := y.number(60)
		y.each(func(b *bay.Bay) { b.Cut(steps) })
	case 1:
		y.each(func(b *bay.Bay) { b.Crash() })
	case 2:
		kept := make([][]uint64, y.number(y.b.Size()+1))
		for i := range kept {
			kept[i] = []uint64{uint64(y.number(256)) * 0x0101010101010101}
		}
		y.each(func(b *bay.Bay) { b.Crash(kept...) })
	case 3:
		i := y.number(y.b.Size())
		y.each(func(b *bay.Bay) { b.Member(i).Fail() })
	}
}

// call makes the script's next call.
func (y *both) call(t *testing.T) {
	kind := y.number(14)
	if y.x == nil && kind > 3 && kind < 10 {
		kind = 3
	}
	i := y.number(y.b.Size()+2) - 1
	e, want := api.OK, api.OK
	switch kind {
	case 0:
		x := g(y.b.Size()+y.number(16)/15, 1+y.number(4))
		e, want = Format(y.b, x), plainFormat(y.c, x)
	case 1, 2, 3:
		y.open(t)
	case 4, 5:
		e, want = y.x.Fail(i), y.p.fail(i)
	case 6, 7:
		e, want = y.x.Replace(i), y.p.replace(i)
	case 8, 9:
		n := y.number(7) - 1
		e, want = y.x.Advance(i, n), y.p.advance(i, n)
	case 10:
		y.rot()
	default:
		y.power()
	}
	if e != want {
		t.Fatalf("the call %d of the member %d: %d, want %d", kind, i, e, want)
	}
}

// alike holds all that can be told of both.
func (y *both) alike(t *testing.T) {
	t.Helper()
	if y.x != nil {
		if !same(y.x.Label(), y.p.l) {
			t.Fatalf("the label is %v, want %v", y.x.Label(), y.p.l)
		}
		i, mark, ok := y.p.next()
		nexts(t, y.x, i, mark, ok)
	}
	if y.b.Steps() != y.c.Steps() || y.b.Off() != y.c.Off() {
		t.Fatalf("%d steps, off %v; want %d, %v", y.b.Steps(), y.b.Off(), y.c.Steps(), y.c.Off())
	}
	for i := range y.b.Size() {
		m, want := y.b.Member(i), y.c.Member(i)
		if m.Counts() != want.Counts() || disk(m) != disk(want) {
			t.Fatalf("the member %d: %v, %q; want %v, %q", i, m.Counts(), disk(m), want.Counts(), disk(want))
		}
	}
}

// run runs a script: its first two bytes say which bay.
func run(t *testing.T, script []byte) {
	y := &both{script: script}
	members := []int{4, 4, 4, 5, 5, 6, 3, 1}[y.number(8)]
	sectors := []int{103, 104, 104, 104, 105, 101, 2, 1}[y.number(8)]
	y.b, y.c = bay.New(members, sectors), bay.New(members, sectors)
	if e, want := Format(y.b, g(members, 4)), plainFormat(y.c, g(members, 4)); e != want {
		t.Fatalf("Format: %d, want %d", e, want)
	}
	y.open(t)
	for len(y.script) > 0 {
		y.call(t)
		y.alike(t)
	}
}

// TestScriptsP17_1P17_2P17_3P17_4: all that a board answers and does, against the plain one.
func TestScriptsP17_1P17_2P17_3P17_4(t *testing.T) {
	for seed := range int64(300) {
		script := make([]byte, 250)
		rand.New(rand.NewSource(seed)).Read(script)
		run(t, script)
	}
}

func FuzzBoard(f *testing.F) {
	f.Add([]byte{0, 1, 4, 2, 6, 2, 8, 2, 3, 11, 0, 5, 9, 2, 4, 12, 1, 1, 0})
	f.Fuzz(func(t *testing.T, script []byte) {
		if len(script) <= 300 {
			run(t, script)
		}
	})
}

// TestApartP2: boards of bays of their own have nothing to do with one another.
func TestApartP2(t *testing.T) {
	a, x := boardOf(t, lb(7, 5, "ss1s"))
	b, y := boardOf(t, lb(7, 5, "ss1s"))
	untouched(t, "a call of another board", b, func() {
		answers(t, "Fail", x.Fail(1), api.OK)
		answers(t, "Advance", x.Advance(2, 3), api.OK)
		a.Cut(0)
		answers(t, "Replace", x.Replace(1), api.ErrPower)
	})
	is(t, x, lb(9, 5, "sf3s"))
	is(t, y, lb(7, 5, "ss1s"))
	nexts(t, y, 2, 1, true)
	untouched(t, "a call of another board", a, func() {
		answers(t, "Advance", y.Advance(2, 5), api.OK)
	})
	is(t, y, lb(8, 5, "ssss"))
	is(t, x, lb(9, 5, "sf3s"))
}
