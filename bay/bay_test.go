package bay

import (
	"math"
	"runtime"
	"slices"
	"strings"
	"sync"
	"sync/atomic"
	"testing"

	"trunnion/api"
	"trunnion/member"
)

// ints are numbers of all sizes: those about the edges of members and sectors, and the least and greatest ones.
var ints = []int{math.MinInt, math.MinInt + 1, -1 << 32, -33, -32, -2, -1, 0, 1, 2, 3, 4, 31, 32, 33, 255, 256, 257, 1 << 32, 1<<32 + 1, math.MaxInt - 1, math.MaxInt}

// full is a sector's bytes, all of them alike.
func full(c byte) string {
	return strings.Repeat(string([]byte{c}), 64)
}

// noughts is what a sector has at first.
var noughts = full(0)

// plain is a bay by the chapter's words: members of layer 10, and steps that are numbered; the power fails at the one whose number is end.
type plain struct {
	members []*member.Member
	fails   bool
	steps   int64
	end     int64
}

func newPlain(members, sectors int) *plain {
	p := &plain{}
	for range members {
		p.members = append(p.members, member.New(sectors))
	}
	return p
}

func (p *plain) off() bool {
	return p.fails && p.steps >= p.end
}

func (p *plain) why(i int) api.Errno {
	if i < 0 || i >= len(p.members) {
		return api.ErrNone
	}
	if p.off() {
		return api.ErrPower
	}
	return api.OK
}

func (p *plain) write(i, at int, s string) api.Errno {
	if e := p.why(i); e != api.OK {
		return e
	}
	p.steps++
	return p.members[i].Write(at, s)
}

func (p *plain) flush(i int) api.Errno {
	if e := p.why(i); e != api.OK {
		return e
	}
	p.steps++
	return p.members[i].Flush()
}

func (p *plain) read(i, at int) (string, api.Errno) {
	if e := p.why(i); e != api.OK {
		return "", e
	}
	return p.members[i].Read(at)
}

func (p *plain) cut(steps int) {
	p.fails, p.end = true, p.steps
	if steps > 0 {
		p.end += int64(steps)
	}
}

func (p *plain) crash(kept [][]uint64) {
	for i, m := range p.members {
		var own []uint64
		if len(kept) > i {
			own = kept[i]
		}
		m.Crash(own...)
	}
	p.fails = false
}

func (p *plain) live() []int {
	var all []int
	for i, m := range p.members {
		if !m.Dead() {
			all = append(all, i)
		}
	}
	return all
}

// twins holds all that a member tells against what another one does.
func twins(t *testing.T, i int, m, want *member.Member) {
	t.Helper()
	if m.Size() != want.Size() || m.Dead() != want.Dead() || !slices.Equal(m.Waiting(), want.Waiting()) {
		t.Fatalf("member %d: size %d, dead %v, waiting %v; want %d, %v, %v", i, m.Size(), m.Dead(), m.Waiting(), want.Size(), want.Dead(), want.Waiting())
	}
	for at := range want.Size() {
		s, e := m.Read(at)
		if bytes, f := want.Read(at); s != bytes || e != f {
			t.Fatalf("member %d, sector %d: %q, %d; want %q, %d", i, at, s, e, bytes, f)
		}
	}
	if m.Counts() != want.Counts() {
		t.Fatalf("member %d: counts %v, want %v", i, m.Counts(), want.Counts())
	}
}

// alike holds all that a bay tells against what the plain one does.
func alike(t *testing.T, b *Bay, p *plain) {
	t.Helper()
	if b.Size() != len(p.members) || b.Steps() != p.steps || b.Off() != p.off() || !slices.Equal(b.Live(), p.live()) {
		t.Fatalf("size %d, steps %d, off %v, live %v; want %d, %d, %v, %v", b.Size(), b.Steps(), b.Off(), b.Live(), len(p.members), p.steps, p.off(), p.live())
	}
	for i, want := range p.members {
		twins(t, i, b.Member(i), want)
		s, e := b.Read(i, 0)
		if bytes, f := p.read(i, 0); s != bytes || e != f {
			t.Fatalf("Read(%d, 0): %q, %d; want %q, %d", i, s, e, bytes, f)
		}
	}
}

// has holds a sector's bytes against those wanted.
func has(t *testing.T, b *Bay, i, at int, want string) {
	t.Helper()
	if s, e := b.Read(i, at); s != want || e != api.OK {
		t.Errorf("member %d, sector %d: %q, %d; want %q", i, at, s, e, want)
	}
}

// told holds the errors of calls against one that is wanted of all of them.
func told(t *testing.T, want api.Errno, errors ...api.Errno) {
	t.Helper()
	for i, e := range errors {
		if e != want {
			t.Errorf("the call %d: %d, want %d", i, e, want)
		}
	}
}

// readError is what a Read answers beside its bytes, which must be none with an error.
func readError(t *testing.T, b *Bay, i, at int) api.Errno {
	t.Helper()
	s, e := b.Read(i, at)
	if e != api.OK && s != "" {
		t.Errorf("Read(%d, %d): %q beside %d", i, at, s, e)
	}
	return e
}

func TestExample(t *testing.T) {
	b := New(2, 4)
	b.Cut(1)
	told(t, api.OK, b.Write(0, 0, full('a')))
	told(t, api.ErrPower, b.Write(1, 0, full('b')))
	b.Crash()
	has(t, b, 0, 0, noughts)
}

func TestNewP11_1(t *testing.T) {
	for _, n := range ints {
		for _, sectors := range []int{math.MinInt, -1, 0, 1, 2, 255, 256, 257, math.MaxInt} {
			b := New(n, sectors)
			want := newPlain(min(max(n, 1), 32), sectors)
			alike(t, b, want)
			if b.Steps() != 0 || b.Off() {
				t.Errorf("New(%d, %d): %d steps, off %v", n, sectors, b.Steps(), b.Off())
			}
		}
	}
	for n := 1; n <= 32; n++ {
		if b := New(n, 1); b.Size() != n || len(b.Live()) != n {
			t.Errorf("New(%d, 1): %d members, of whom %v live", n, b.Size(), b.Live())
		}
	}
}

func TestNewsMembersHaveSoManySectorsP11_1(t *testing.T) {
	for _, sectors := range ints {
		b := New(3, sectors)
		for i := range 3 {
			if got, want := b.Member(i).Size(), member.New(sectors).Size(); got != want {
				t.Errorf("New(3, %d): member %d has %d sectors, want %d", sectors, i, got, want)
			}
		}
	}
}

// TestPowerOfANewBayP11_1: it doesn't fail, however many steps there are.
func TestPowerOfANewBayP11_1(t *testing.T) {
	const rounds = 100000
	b := New(1, 1)
	for range rounds {
		told(t, api.OK, b.Flush(0))
	}
	if b.Off() || b.Steps() != rounds {
		t.Errorf("off %v behind %d steps", b.Off(), b.Steps())
	}
}

func TestMemberP11_1(t *testing.T) {
	for _, n := range []int{1, 2, 4, 31, 32} {
		b := New(n, 2)
		for _, i := range ints {
			m := b.Member(i)
			if there := i >= 0 && i < n; (m != nil) != there {
				t.Errorf("Member(%d) of %d: %v", i, n, m)
			}
			if m != b.Member(i) {
				t.Errorf("Member(%d) of %d is another one each time", i, n)
			}
		}
		for i := range n {
			told(t, api.OK, b.Member(i).Write(1, full(byte(i+1))))
		}
		for i := range n {
			has(t, b, i, 1, full(byte(i+1)))
			for j := range i {
				if b.Member(i) == b.Member(j) {
					t.Errorf("of %d, %d and %d are one", n, i, j)
				}
			}
		}
	}
}

// TestMembersOwnCallsP11_1: a member is asked past the bay's power, without steps.
func TestMembersOwnCallsP11_1(t *testing.T) {
	b := New(2, 2)
	b.Cut(0)
	m := b.Member(1)
	told(t, api.OK, m.Write(0, full('a')), m.Flush())
	if s, e := m.Read(0); s != full('a') || e != api.OK || b.Steps() != 0 {
		t.Errorf("%q, %d, %d steps", s, e, b.Steps())
	}
	told(t, api.ErrPower, readError(t, b, 1, 0))
	b.Crash()
	has(t, b, 1, 0, full('a'))
	if !m.Rot(1, full('b')) {
		t.Error("Rot: false")
	}
	has(t, b, 1, 1, full('b'))
}

func TestLiveP11_1(t *testing.T) {
	const n = 5
	for dead := range 1 << n {
		b := New(n, 1)
		want := []int{}
		for i := range n {
			if dead>>i&1 == 1 {
				b.Member(i).Fail()
			} else {
				want = append(want, i)
			}
		}
		// Who is dead is told without power too.
		for _, steps := range []int{3, 0} {
			b.Cut(steps)
			if !slices.Equal(b.Live(), want) {
				t.Errorf("live: %v, want %v", b.Live(), want)
			}
		}
		b.Crash()
		if !slices.Equal(b.Live(), want) || b.Size() != n {
			t.Errorf("behind a crash: %v of %d, want %v", b.Live(), b.Size(), want)
		}
		for i := range n {
			b.Member(i).Replace()
		}
		if !slices.Equal(b.Live(), []int{0, 1, 2, 3, 4}) {
			t.Errorf("all replaced: %v", b.Live())
		}
	}
}

func TestLiveIsNewMemory(t *testing.T) {
	b := New(3, 1)
	one, two := b.Live(), b.Live()
	one[0] = 9
	one = append(one[:1], 8, 8, 8)
	_ = one
	b.Member(1).Fail()
	if !slices.Equal(two, []int{0, 1, 2}) || !slices.Equal(b.Live(), []int{0, 2}) {
		t.Errorf("%v, then %v", two, b.Live())
	}
}

func TestStepsP11_1(t *testing.T) {
	b := New(2, 2)
	var want int64
	check := func(more int64) {
		t.Helper()
		if want += more; b.Steps() != want {
			t.Errorf("%d steps, want %d", b.Steps(), want)
		}
	}
	check(0)
	b.Write(0, 0, full('a'))
	check(1)
	b.Flush(1)
	check(1)
	// A call that the member refuses is a step all the same.
	b.Write(0, 2, full('a'))
	b.Write(0, 0, "short")
	check(2)
	b.Member(1).Fail()
	b.Write(1, 0, full('a'))
	b.Flush(1)
	check(2)
	// Where there is no such member, no power, or no write, there is none.
	b.Write(2, 0, full('a'))
	b.Write(-1, 0, full('a'))
	b.Flush(2)
	b.Flush(-1)
	b.Read(0, 0)
	b.Read(0, 5)
	b.Crash([]uint64{1})
	b.Live()
	b.Cut(1)
	check(0)
	b.Flush(0)
	check(1)
	b.Flush(0)
	b.Write(0, 0, full('a'))
	b.Read(0, 0)
	check(0)
	// Steps are counted from New on, through crashes.
	b.Crash()
	check(0)
	b.Flush(0)
	check(1)
}

func TestNoSuchMemberP11_2(t *testing.T) {
	for _, n := range []int{1, 4, 32} {
		for _, steps := range []int{-1, 0, 1, 7} {
			b, p := New(n, 2), newPlain(n, 2)
			b.Cut(steps)
			p.cut(steps)
			for _, i := range ints {
				if i >= 0 && i < n {
					continue
				}
				for _, at := range ints {
					told(t, api.ErrNone, b.Write(i, at, full('a')), b.Write(i, at, "short"), readError(t, b, i, at))
				}
				told(t, api.ErrNone, b.Flush(i))
			}
			alike(t, b, p)
		}
	}
}

// TestNoPowerP11_2: it is told ahead of all that the member would refuse, and nothing is done.
func TestNoPowerP11_2(t *testing.T) {
	b, p := New(3, 2), newPlain(3, 2)
	told(t, api.OK, b.Write(0, 1, full('a')), p.write(0, 1, full('a')))
	b.Member(2).Fail()
	p.members[2].Fail()
	b.Cut(0)
	p.cut(0)
	for i := range 3 {
		for _, at := range ints {
			told(t, api.ErrPower, b.Write(i, at, full('b')), b.Write(i, at, "short"), readError(t, b, i, at))
		}
		told(t, api.ErrPower, b.Flush(i))
	}
	alike(t, b, p)
	// What waited waits still.
	if !slices.Equal(b.Member(0).Waiting(), []int{1}) {
		t.Errorf("waiting: %v", b.Member(0).Waiting())
	}
}

func TestMembersAnswersP11_2(t *testing.T) {
	const n = 3
	b, p := New(n, 2), newPlain(n, 2)
	b.Member(1).Fail()
	p.members[1].Fail()
	for i := range n {
		for _, at := range ints {
			for _, s := range []string{"", "a", full('c')[1:], full('c') + "c", full(byte(i))} {
				if got, want := b.Write(i, at, s), p.write(i, at, s); got != want {
					t.Errorf("Write(%d, %d, of %d bytes): %d, want %d", i, at, len(s), got, want)
				}
			}
			s, e := b.Read(i, at)
			if want, f := p.read(i, at); s != want || e != f {
				t.Errorf("Read(%d, %d): %q, %d; want %q, %d", i, at, s, e, want, f)
			}
		}
		alike(t, b, p)
		if got, want := b.Flush(i), p.flush(i); got != want {
			t.Errorf("Flush(%d): %d, want %d", i, got, want)
		}
		alike(t, b, p)
	}
}

// TestWritesOfOneMemberP11_2: a Flush makes its own member's writes last, and no other's.
func TestWritesOfOneMemberP11_2(t *testing.T) {
	b := New(3, 2)
	for i := range 3 {
		told(t, api.OK, b.Write(i, i%2, full(byte('a'+i))))
	}
	told(t, api.OK, b.Flush(1))
	b.Crash()
	has(t, b, 0, 0, noughts)
	has(t, b, 1, 1, full('b'))
	has(t, b, 2, 0, noughts)
}

func TestReadTakesNoStepP11_2(t *testing.T) {
	b := New(2, 2)
	b.Cut(1)
	for range 10 {
		has(t, b, 1, 1, noughts)
		told(t, api.ErrRange, readError(t, b, 1, 2))
	}
	if b.Off() || b.Steps() != 0 {
		t.Errorf("off %v behind %d steps", b.Off(), b.Steps())
	}
	told(t, api.OK, b.Write(1, 1, full('a')))
	told(t, api.ErrPower, readError(t, b, 1, 1), readError(t, b, 0, 0))
}

func TestCutP11_3(t *testing.T) {
	for _, steps := range []int{math.MinInt, -7, -1, 0, 1, 2, 3, 10} {
		for _, before := range []int{0, 1, 5} {
			b, p := New(2, 2), newPlain(2, 2)
			for range before {
				told(t, api.OK, b.Flush(0), p.flush(0))
			}
			b.Cut(steps)
			p.cut(steps)
			for round := range 15 {
				if b.Off() != (round >= steps) {
					t.Errorf("Cut(%d): off %v behind %d steps", steps, b.Off(), round)
				}
				want := api.OK
				if round >= steps {
					want = api.ErrPower
				}
				if i, s := round%2, full(byte(round)); round%3 == 0 {
					told(t, want, b.Flush(i), p.flush(i))
				} else {
					told(t, want, b.Write(i, 1, s), p.write(i, 1, s))
				}
				alike(t, b, p)
			}
		}
	}
}

func TestRefusedStepsAreTakenP11_3(t *testing.T) {
	b := New(2, 2)
	b.Member(1).Fail()
	b.Cut(5)
	told(t, api.ErrRange, b.Write(0, 2, full('a')))
	told(t, api.ErrForm, b.Write(0, 0, "short"))
	told(t, api.ErrDead, b.Write(1, 0, full('a')), b.Flush(1))
	told(t, api.ErrNone, b.Write(2, 0, full('a')), b.Flush(-1))
	if b.Off() {
		t.Error("off behind four steps of five")
	}
	told(t, api.OK, b.Write(0, 0, full('a')))
	told(t, api.ErrPower, b.Write(0, 2, full('a')), b.Flush(1))
	if !b.Off() || b.Steps() != 5 {
		t.Errorf("off %v behind %d steps", b.Off(), b.Steps())
	}
}

// TestCutAnewP11_3: the number that is set last holds, whatever was left, and however often there was no power.
func TestCutAnewP11_3(t *testing.T) {
	b := New(1, 1)
	for _, steps := range []int{3, 0, 2, 5, -1, 1, math.MinInt, 4} {
		for _, more := range []int{7, steps} {
			b.Cut(more)
			if b.Off() != (more <= 0) {
				t.Errorf("Cut(%d): off %v", more, b.Off())
			}
		}
		for range steps {
			told(t, api.OK, b.Flush(0))
		}
		for range 9 {
			told(t, api.ErrPower, b.Flush(0))
			if !b.Off() {
				t.Error("not off")
			}
		}
	}
	if b.Steps() != 3+2+5+1+4 {
		t.Errorf("%d steps", b.Steps())
	}
}

func TestCutOfManyStepsP11_3(t *testing.T) {
	for _, steps := range []int{1 << 31, 1 << 32, 1<<32 + 1, math.MaxInt - 1, math.MaxInt} {
		b := New(1, 1)
		b.Cut(steps)
		for range 1000 {
			told(t, api.OK, b.Flush(0))
		}
		if b.Off() || b.Steps() != 1000 {
			t.Errorf("Cut(%d): off %v behind %d steps", steps, b.Off(), b.Steps())
		}
	}
}

func TestOffP11_3(t *testing.T) {
	b := New(1, 1)
	check := func(want bool) {
		t.Helper()
		if b.Off() != want {
			t.Errorf("off %v", b.Off())
		}
	}
	check(false)
	b.Cut(1)
	check(false)
	b.Flush(0)
	check(true)
	b.Cut(2)
	check(false)
	b.Cut(0)
	check(true)
	b.Crash()
	check(false)
	b.Flush(0)
	check(false)
	b.Cut(-1)
	check(true)
	// Members that live or don't have nothing to do with it.
	b.Member(0).Fail()
	check(true)
	b.Crash()
	b.Member(0).Replace()
	check(false)
}

// TestCrashGivesPowerP11_3: of a bay with steps left, with none, and with no number set.
func TestCrashGivesPowerP11_3(t *testing.T) {
	for _, cut := range []func(b *Bay){func(*Bay) {}, func(b *Bay) { b.Cut(3) }, func(b *Bay) { b.Cut(0) }} {
		for _, kept := range [][][]uint64{nil, {}, {nil}, {{1}, {2}}} {
			b := New(2, 1)
			cut(b)
			b.Crash(kept...)
			for range 20 {
				told(t, api.OK, b.Write(1, 0, full('a')), b.Flush(0))
			}
			if b.Off() || b.Steps() != 40 {
				t.Errorf("off %v behind %d steps", b.Off(), b.Steps())
			}
		}
	}
}

// TestCrashOfEachChoiceP11_3: each member has its own list.
func TestCrashOfEachChoiceP11_3(t *testing.T) {
	for choice := range 1 << 6 {
		b, p := New(3, 2), newPlain(3, 2)
		for i := range 3 {
			for at := range 2 {
				s := full(byte(10*i + at + 1))
				told(t, api.OK, b.Write(i, at, s), p.write(i, at, s))
			}
		}
		kept := [][]uint64{{uint64(choice & 3)}, {uint64(choice >> 2 & 3)}, {uint64(choice >> 4)}}
		b.Crash(kept...)
		p.crash(kept)
		alike(t, b, p)
		for i := range 3 {
			for at := range 2 {
				want := noughts
				if choice>>(2*i+at)&1 == 1 {
					want = full(byte(10*i + at + 1))
				}
				has(t, b, i, at, want)
			}
		}
	}
}

// TestCrashWithListsOfAnyNumberP11_3: a member without a list keeps none; lists without a member are passed over.
func TestCrashWithListsOfAnyNumberP11_3(t *testing.T) {
	for _, n := range []int{1, 2, 5, 32} {
		for lists := range 40 {
			b := New(n, 1)
			for i := range n {
				told(t, api.OK, b.Write(i, 0, full(byte(i+1))))
			}
			b.Crash(slices.Repeat([][]uint64{{math.MaxUint64}}, lists)...)
			for i := range n {
				want := noughts
				if i < lists {
					want = full(byte(i + 1))
				}
				has(t, b, i, 0, want)
				if len(b.Member(i).Waiting()) != 0 {
					t.Errorf("member %d: waiting %v", i, b.Member(i).Waiting())
				}
			}
		}
	}
}

func TestCrashWithLongListsP11_3(t *testing.T) {
	const writes = 200
	b := New(2, 256)
	for at := range writes {
		told(t, api.OK, b.Write(1, at, full(byte(at+1))), b.Write(0, at, full(byte(at+1))))
	}
	b.Crash([]uint64{0, 1 << 63}, []uint64{1, 0, 2, math.MaxUint64})
	for at := range writes {
		want := [2]string{noughts, noughts}
		if at == 127 {
			want[0] = full(byte(at + 1))
		}
		if at == 0 || at == 129 || at >= 192 {
			want[1] = full(byte(at + 1))
		}
		has(t, b, 0, at, want[0])
		has(t, b, 1, at, want[1])
	}
}

// TestCrashReadsListsAlone: neither lists behind those handed in are read, nor words behind a list's.
func TestCrashReadsListsAlone(t *testing.T) {
	b := New(2, 128)
	for at := range 70 {
		told(t, api.OK, b.Write(0, at, full('a')), b.Write(1, at, full('b')))
	}
	words := []uint64{2, math.MaxUint64}
	lists := [][]uint64{words[:1], {math.MaxUint64, math.MaxUint64}}
	b.Crash(lists[:1]...)
	if !slices.Equal(words, []uint64{2, math.MaxUint64}) || len(lists[0]) != 1 || !slices.Equal(lists[1], []uint64{math.MaxUint64, math.MaxUint64}) {
		t.Errorf("what was handed in changed: %v, %v", words, lists)
	}
	for at := range 70 {
		want := noughts
		if at == 1 {
			want = full('a')
		}
		has(t, b, 0, at, want)
		has(t, b, 1, at, noughts)
	}
	words[0] = math.MaxUint64
	has(t, b, 0, 0, noughts)
}

func TestCrashOfDeadMembersP11_3(t *testing.T) {
	b, p := New(3, 2), newPlain(3, 2)
	for i := range 3 {
		told(t, api.OK, b.Write(i, 0, full('a')), p.write(i, 0, full('a')))
	}
	b.Member(1).Fail()
	p.members[1].Fail()
	kept := [][]uint64{{1}, {1}, {1}}
	b.Crash(kept...)
	p.crash(kept)
	alike(t, b, p)
	told(t, api.ErrDead, readError(t, b, 1, 0))
	has(t, b, 2, 0, full('a'))
}

// TestPowerFailsAtEachStep: the steps of a script up to there are made, the others aren't.
func TestPowerFailsAtEachStep(t *testing.T) {
	const steps = 12
	for cut := range steps + 2 {
		b := New(3, 4)
		b.Cut(cut)
		for step := range steps {
			i, at := step/4, step%4
			e := b.Write(i, at, full(byte(step+1)))
			if at == 3 {
				e = b.Flush(i)
			}
			want := api.OK
			if made := step + i; made >= cut || at == 3 && made+1 >= cut {
				want = api.ErrPower
			}
			told(t, want, e)
		}
		b.Crash()
		for i := range 3 {
			for at := range 4 {
				want := noughts
				if cut >= 5*(i+1) {
					want = full(byte(4*i + at + 1))
				}
				has(t, b, i, at, want)
			}
		}
	}
}

// TestLastStepsGoToOneEachP11_2: several ask at the same time, and no step is made twice or lost.
func TestLastStepsGoToOneEachP11_2(t *testing.T) {
	const workers, rounds = 8, 200
	for _, steps := range []int{0, 1, 2, 100, workers*rounds - 1, workers * rounds, workers*rounds + 1} {
		b := New(workers, 4)
		b.Cut(steps)
		made := make([]int, workers)
		var done sync.WaitGroup
		for worker := range workers {
			done.Add(1)
			go func() {
				defer done.Done()
				for round := range rounds {
					before := b.Steps()
					e := b.Write(worker, round%4, full(byte(round)))
					if e == api.OK {
						made[worker]++
					} else if e != api.ErrPower || !b.Off() {
						t.Errorf("Write: %d, off %v", e, b.Off())
					}
					if after := b.Steps(); after < before || after > int64(steps) {
						t.Errorf("%d steps behind %d, of %d", after, before, steps)
					}
				}
			}()
		}
		done.Wait()
		all := 0
		for worker, n := range made {
			all += n
			if c := b.Member(worker).Counts(); c.Writes != int64(n) {
				t.Errorf("%d writes of %d", c.Writes, n)
			}
		}
		if want := min(steps, workers*rounds); all != want || b.Steps() != int64(want) || b.Off() != (steps <= workers*rounds) {
			t.Errorf("Cut(%d): %d steps, %d told, off %v", steps, all, b.Steps(), b.Off())
		}
	}
}

// TestOneLastStepP11_2: of all that ask again and again, each step that is left goes to one alone.
func TestOneLastStepP11_2(t *testing.T) {
	const workers, cuts = 4, 40000
	b := New(workers, 1)
	b.Cut(0)
	var ended atomic.Bool
	var done sync.WaitGroup
	for worker := range workers {
		done.Add(1)
		go func() {
			defer done.Done()
			for !ended.Load() {
				if b.Flush(worker) != api.OK {
					runtime.Gosched()
				}
			}
		}()
	}
	for range cuts {
		b.Cut(1)
		for !b.Off() {
			runtime.Gosched()
		}
	}
	ended.Store(true)
	done.Wait()
	if b.Steps() != cuts {
		t.Errorf("%d steps behind %d cuts of one step each", b.Steps(), cuts)
	}
}

func TestNilBayP1(t *testing.T) {
	var b *Bay
	for _, i := range ints {
		for _, at := range ints {
			told(t, api.ErrNil, b.Write(i, at, full('a')), b.Write(i, at, ""), readError(t, b, i, at))
		}
		told(t, api.ErrNil, b.Flush(i))
		if b.Member(i) != nil {
			t.Errorf("Member(%d) of a nil bay", i)
		}
		b.Cut(i)
		if b.Off() {
			t.Errorf("Cut(%d) of a nil bay: off", i)
		}
	}
	b.Crash()
	b.Crash(nil, []uint64{1})
	if b.Size() != 0 || b.Steps() != 0 || b.Off() || len(b.Live()) != 0 {
		t.Error("a nil bay tells something")
	}
}

// TestBayThatNewDidNotMakeP1: it has no member, and its power doesn't fail till it is cut.
func TestBayThatNewDidNotMakeP1(t *testing.T) {
	b := new(Bay)
	for _, i := range ints {
		told(t, api.ErrNone, b.Write(i, 0, full('a')), readError(t, b, i, 0), b.Flush(i))
		if b.Member(i) != nil {
			t.Errorf("Member(%d)", i)
		}
	}
	alike(t, b, newPlain(0, 1))
	b.Cut(0)
	if !b.Off() {
		t.Error("cut, and not off")
	}
	b.Crash([]uint64{1})
	alike(t, b, newPlain(0, 1))
}

func TestBaysApartP2(t *testing.T) {
	one, two := New(2, 2), New(2, 2)
	one.Cut(2)
	told(t, api.OK, one.Write(0, 0, full('a')), one.Flush(0))
	alike(t, two, newPlain(2, 2))
	told(t, api.OK, two.Write(1, 1, full('b')))
	one.Crash()
	one.Member(1).Fail()
	has(t, two, 0, 0, noughts)
	has(t, two, 1, 1, full('b'))
	two.Cut(0)
	has(t, one, 0, 0, full('a'))
	if one.Off() || one.Steps() != 2 || two.Steps() != 1 || !slices.Equal(two.Live(), []int{0, 1}) || two.Member(0) == one.Member(0) {
		t.Error("two bays have to do with one another")
	}
}

// dice is a row of numbers that look like chance, and are the same each time.
type dice uint64

func (d *dice) roll(n int) int {
	*d = *d*6364136223846793005 + 1442695040888963407
	return int(uint64(*d) >> 33 % uint64(n))
}

// lists are some lists of words, fewer than the members, as many, or more.
func (d *dice) lists(members int) [][]uint64 {
	all := make([][]uint64, d.roll(members+3))
	for i := range all {
		all[i] = make([]uint64, d.roll(3))
		for k := range all[i] {
			all[i][k] = uint64(d.roll(1<<31))<<33 ^ uint64(d.roll(1<<31))
		}
	}
	return all
}

// play makes one call, of the bay and of the plain one.
func play(t *testing.T, d *dice, b *Bay, p *plain) {
	t.Helper()
	n := len(p.members)
	i, at, s := d.roll(n+2)-1, d.roll(5)-1, full(byte(d.roll(256)))
	if d.roll(20) == 0 {
		s = s[d.roll(64)+1:]
	}
	got, want := api.OK, api.OK
	switch d.roll(16) {
	case 0, 1, 2:
		got, want = b.Flush(i), p.flush(i)
	case 3:
		kept := d.lists(n)
		b.Crash(kept...)
		p.crash(kept)
	case 4:
		steps := d.roll(20) - 2
		b.Cut(steps)
		p.cut(steps)
	case 5:
		if own := d.roll(n); d.roll(2) == 0 {
			b.Member(own).Fail()
			p.members[own].Fail()
		} else {
			b.Member(own).Replace()
			p.members[own].Replace()
		}
	case 6:
		var x, y string
		x, got = b.Read(i, at)
		if y, want = p.read(i, at); x != y {
			t.Fatalf("Read(%d, %d): %q, want %q", i, at, x, y)
		}
	default:
		got, want = b.Write(i, at, s), p.write(i, at, s)
	}
	if got != want {
		t.Fatalf("member %d, sector %d: %d, want %d", i, at, got, want)
	}
}

func TestLongScripts(t *testing.T) {
	for seed := range 40 {
		d := dice(seed)
		members := 1 + d.roll(6)
		b, p := New(members, 3), newPlain(members, 3)
		for range 400 {
			play(t, &d, b, p)
			alike(t, b, p)
		}
	}
}
