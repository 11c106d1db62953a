package member

import (
	"math"
	"slices"
	"strings"
	"sync"
	"testing"

	"trunnion/api"
)

// ints are numbers of all sizes: those about the edges of sectors, and the least and greatest ones.
var ints = []int{math.MinInt, math.MinInt + 1, -1 << 32, -257, -256, -64, -2, -1, 0, 1, 2, 3, 63, 64, 65, 254, 255, 256, 257, 1 << 32, 1<<32 + 1, math.MaxInt - 1, math.MaxInt}

// unfit are texts that aren't a sector's bytes.
var unfit = []string{"", "a", strings.Repeat("a", 63), strings.Repeat("a", 65), strings.Repeat("a", 128), strings.Repeat("a", 100000)}

// full is a sector's bytes, all of them alike.
func full(c byte) string {
	return strings.Repeat(string([]byte{c}), 64)
}

// mixed is a sector's bytes, no two beside each other alike.
func mixed(n int) string {
	b := make([]byte, 64)
	for i := range b {
		b[i] = byte(n + i*i + 3*i + n*i)
	}
	return string(b)
}

// noughts is what a sector has at first.
var noughts = full(0)

// plain is a member by the chapter's words: what lasted, and the row of writes, out of which all else is reckoned anew each time.
type plain struct {
	lasted map[int]string
	at     []int
	bytes  []string
	size   int
	dead   bool
	counts Counts
}

func newPlain(size int) *plain {
	return &plain{lasted: map[int]string{}, size: size}
}

func (p *plain) there(at int) bool {
	return at >= 0 && at < p.size
}

func (p *plain) read(at int) (string, api.Errno) {
	if p.dead {
		return "", api.ErrDead
	}
	if !p.there(at) {
		return "", api.ErrRange
	}
	p.counts.Reads++
	s, ok := p.lasted[at]
	if !ok {
		s = noughts
	}
	for i, x := range p.at {
		if x == at {
			s = p.bytes[i]
		}
	}
	return s, api.OK
}

func (p *plain) write(at int, s string) api.Errno {
	if p.dead {
		return api.ErrDead
	}
	if !p.there(at) {
		return api.ErrRange
	}
	if len(s) != 64 {
		return api.ErrForm
	}
	p.counts.Writes++
	p.at = append(p.at, at)
	p.bytes = append(p.bytes, s)
	return api.OK
}

// crash keeps the writes whose place is set, a bit of kept at a time.
func (p *plain) crash(kept []uint64) {
	place := 0
	for _, word := range kept {
		for bit := 0; bit < 64; bit++ {
			if place < len(p.at) && word&(uint64(1)<<bit) != 0 {
				p.lasted[p.at[place]] = p.bytes[place]
			}
			place++
		}
	}
	p.at, p.bytes = nil, nil
}

func (p *plain) flush() api.Errno {
	if p.dead {
		return api.ErrDead
	}
	p.counts.Flushes++
	for i, at := range p.at {
		p.lasted[at] = p.bytes[i]
	}
	p.at, p.bytes = nil, nil
	return api.OK
}

func (p *plain) fail() {
	p.dead = true
	p.at, p.bytes = nil, nil
}

func (p *plain) replace() {
	p.dead = false
	p.at, p.bytes = nil, nil
	p.lasted = map[int]string{}
	p.counts.Replaced++
}

func (p *plain) rot(at int, s string) bool {
	if p.dead || !p.there(at) || len(s) != 64 {
		return false
	}
	var left []int
	var bytes []string
	for i, x := range p.at {
		if x != at {
			left = append(left, x)
			bytes = append(bytes, p.bytes[i])
		}
	}
	p.at, p.bytes = left, bytes
	p.lasted[at] = s
	return true
}

// alike holds all that a member tells against what the plain one does.
func alike(t *testing.T, m *Member, p *plain) {
	t.Helper()
	if m.Size() != p.size || m.Dead() != p.dead || !slices.Equal(m.Waiting(), p.at) {
		t.Fatalf("size %d, dead %v, waiting %v; want %d, %v, %v", m.Size(), m.Dead(), m.Waiting(), p.size, p.dead, p.at)
	}
	for at := -1; at <= p.size; at++ {
		s, e := m.Read(at)
		if want, f := p.read(at); s != want || e != f {
			t.Fatalf("sector %d: %q, %d; want %q, %d", at, s, e, want, f)
		}
	}
	if m.Counts() != p.counts {
		t.Fatalf("counts %v, want %v", m.Counts(), p.counts)
	}
}

// has holds a sector's bytes against those wanted.
func has(t *testing.T, m *Member, at int, want string) {
	t.Helper()
	if s, e := m.Read(at); s != want || e != api.OK {
		t.Errorf("sector %d: %q, %d; want %q", at, s, e, want)
	}
}

// waits holds the sectors of the writes that wait against those wanted.
func waits(t *testing.T, m *Member, want ...int) {
	t.Helper()
	if !slices.Equal(m.Waiting(), want) {
		t.Errorf("waiting: %v, want %v", m.Waiting(), want)
	}
}

// fine holds calls that must be OK.
func fine(t *testing.T, errors ...api.Errno) {
	t.Helper()
	for i, e := range errors {
		if e != api.OK {
			t.Errorf("the call %d: %d", i, e)
		}
	}
}

func TestExample(t *testing.T) {
	m := New(1)
	a, b, c := full('a'), full('b'), full('c')
	fine(t, m.Write(0, a), m.Flush(), m.Write(0, b), m.Write(0, c))
	has(t, m, 0, c)
	m.Crash(1)
	has(t, m, 0, b)
}

func TestNewP10_1(t *testing.T) {
	for _, n := range ints {
		want := n
		if n < 1 {
			want = 1
		}
		if n > 256 {
			want = 256
		}
		m := New(n)
		if m.Size() != want || m.Dead() || len(m.Waiting()) != 0 || m.Counts() != (Counts{}) {
			t.Errorf("New(%d): %d sectors, want %d", n, m.Size(), want)
		}
		alike(t, m, newPlain(want))
	}
	for n := 1; n <= 256; n++ {
		if New(n).Size() != n {
			t.Errorf("New(%d): %d sectors", n, New(n).Size())
		}
	}
}

func TestWriteAndReadP10_1(t *testing.T) {
	for _, n := range []int{1, 2, 3, 64, 255, 256} {
		m, p := New(n), newPlain(n)
		for at := range n {
			fine(t, m.Write(at, mixed(at)), p.write(at, mixed(at)))
			has(t, m, at, mixed(at))
			p.read(at)
		}
		alike(t, m, p)
		// Written anew, backward: each write waits, as the last one.
		for at := n - 1; at >= 0; at-- {
			fine(t, m.Write(at, mixed(at+7)), p.write(at, mixed(at+7)))
		}
		alike(t, m, p)
		if len(m.Waiting()) != 2*n {
			t.Errorf("%d writes wait, want %d", len(m.Waiting()), 2*n)
		}
		fine(t, m.Flush(), p.flush())
		alike(t, m, p)
		m.Crash()
		p.crash(nil)
		alike(t, m, p)
	}
}

func TestWriteErrorsP10_1(t *testing.T) {
	for _, n := range []int{1, 3, 255, 256} {
		m, p := New(n), newPlain(n)
		fine(t, m.Write(0, mixed(1)), m.Flush(), m.Write(n-1, mixed(2)))
		fine(t, p.write(0, mixed(1)), p.flush(), p.write(n-1, mixed(2)))
		for _, at := range ints {
			for _, s := range unfit {
				want := api.ErrForm
				if at < 0 || at >= n {
					want = api.ErrRange
				}
				if e := m.Write(at, s); e != want {
					t.Errorf("Write(%d, of %d bytes) of %d sectors: %d, want %d", at, len(s), n, e, want)
				}
			}
			if at >= 0 && at < n {
				continue
			}
			if e := m.Write(at, mixed(3)); e != api.ErrRange {
				t.Errorf("Write(%d) of %d sectors: %d", at, n, e)
			}
			if s, e := m.Read(at); s != "" || e != api.ErrRange {
				t.Errorf("Read(%d) of %d sectors: %q, %d", at, n, s, e)
			}
		}
		alike(t, m, p)
	}
}

func TestDeadRefusesAheadOfAllElseP10_1(t *testing.T) {
	m, p := New(4), newPlain(4)
	fine(t, m.Write(1, mixed(1)), p.write(1, mixed(1)))
	m.Fail()
	p.fail()
	for _, at := range ints {
		for _, s := range append(unfit, mixed(9)) {
			if e := m.Write(at, s); e != api.ErrDead {
				t.Errorf("Write(%d, of %d bytes): %d", at, len(s), e)
			}
		}
		if s, e := m.Read(at); s != "" || e != api.ErrDead {
			t.Errorf("Read(%d): %q, %d", at, s, e)
		}
	}
	if e := m.Flush(); e != api.ErrDead {
		t.Errorf("Flush: %d", e)
	}
	alike(t, m, p)
	if m.Size() != 4 {
		t.Errorf("dead, it has %d sectors", m.Size())
	}
}

func TestFlushP10_1(t *testing.T) {
	m := New(3)
	fine(t, m.Flush(), m.Write(2, mixed(1)), m.Write(0, mixed(2)), m.Write(2, mixed(3)))
	waits(t, m, 2, 0, 2)
	fine(t, m.Flush())
	waits(t, m)
	m.Crash()
	has(t, m, 0, mixed(2))
	has(t, m, 1, noughts)
	has(t, m, 2, mixed(3))
	fine(t, m.Flush(), m.Flush())
	has(t, m, 2, mixed(3))
}

func TestWaitingP10_1(t *testing.T) {
	m := New(5)
	waits(t, m)
	// A sector is told as often as it was written, though its bytes are those that it had.
	for _, at := range []int{4, 0, 4, 4, 3} {
		fine(t, m.Write(at, noughts))
	}
	waits(t, m, 4, 0, 4, 4, 3)
	got := m.Waiting()
	got = append(got[:1], 9, 9, 9, 9, 9, 9)
	_ = got
	waits(t, m, 4, 0, 4, 4, 3)
	before := m.Waiting()
	fine(t, m.Write(1, noughts))
	if m.Rot(4, noughts); !slices.Equal(before, []int{4, 0, 4, 4, 3}) {
		t.Errorf("what was told changed: %v", before)
	}
	waits(t, m, 0, 3, 1)
}

func TestCrashOfEachChoiceP10_2(t *testing.T) {
	writes := []struct{ at, bytes int }{{0, 1}, {1, 2}, {0, 3}, {2, 4}, {1, 5}, {0, 6}}
	for kept := range uint64(1) << len(writes) {
		m, p := New(3), newPlain(3)
		fine(t, m.Write(1, mixed(99)), m.Flush(), p.write(1, mixed(99)), p.flush())
		for _, w := range writes {
			fine(t, m.Write(w.at, mixed(w.bytes)), p.write(w.at, mixed(w.bytes)))
		}
		m.Crash(kept)
		p.crash([]uint64{kept})
		alike(t, m, p)
		// What was kept lasts, and what wasn't doesn't come back.
		m.Crash(math.MaxUint64)
		alike(t, m, p)
		fine(t, m.Flush(), p.flush())
		alike(t, m, p)
	}
}

func TestCrashWithoutKeptP10_2(t *testing.T) {
	for _, kept := range [][]uint64{nil, {}, {0}, {0, 0, 0}} {
		m := New(2)
		fine(t, m.Write(0, mixed(1)), m.Flush(), m.Write(0, mixed(2)), m.Write(1, mixed(3)))
		m.Crash(kept...)
		waits(t, m)
		has(t, m, 0, mixed(1))
		has(t, m, 1, noughts)
	}
}

func TestCrashAcrossWordsP10_2(t *testing.T) {
	const writes = 200
	for _, place := range []int{0, 1, 31, 32, 62, 63, 64, 65, 126, 127, 128, 129, 191, 192, 193, 199} {
		m := New(256)
		for i := range writes {
			fine(t, m.Write(i, mixed(i)))
		}
		kept := make([]uint64, place/64+1)
		kept[place/64] = 1 << (place % 64)
		m.Crash(kept...)
		for i := range writes {
			want := noughts
			if i == place {
				want = mixed(i)
			}
			has(t, m, i, want)
		}
	}
}

func TestCrashKeptEndsAheadOfTheRowP10_2(t *testing.T) {
	const writes = 150
	for words := range 5 {
		m := New(256)
		for i := range writes {
			fine(t, m.Write(i, mixed(i)))
		}
		kept := slices.Repeat([]uint64{math.MaxUint64}, words)
		m.Crash(kept...)
		for i := range writes {
			want := mixed(i)
			if i >= 64*words {
				want = noughts
			}
			has(t, m, i, want)
		}
	}
}

func TestCrashKeptGoesBeyondTheRowP10_2(t *testing.T) {
	m := New(2)
	fine(t, m.Write(1, mixed(1)))
	m.Crash(slices.Repeat([]uint64{math.MaxUint64}, 1000)...)
	has(t, m, 0, noughts)
	has(t, m, 1, mixed(1))
	waits(t, m)
}

func TestCrashReadsKeptAloneP10_2(t *testing.T) {
	m := New(200)
	for i := range 130 {
		fine(t, m.Write(i, mixed(i)))
	}
	words := []uint64{5, math.MaxUint64, math.MaxUint64}
	m.Crash(words[:1]...)
	if !slices.Equal(words, []uint64{5, math.MaxUint64, math.MaxUint64}) {
		t.Errorf("kept was changed: %v", words)
	}
	for i := range 130 {
		want := noughts
		if i == 0 || i == 2 {
			want = mixed(i)
		}
		has(t, m, i, want)
	}
}

func TestCrashOfADeadOneP10_2(t *testing.T) {
	m, p := New(2), newPlain(2)
	fine(t, m.Write(0, mixed(1)), p.write(0, mixed(1)))
	m.Fail()
	p.fail()
	m.Crash(math.MaxUint64)
	alike(t, m, p)
	m.Replace()
	p.replace()
	m.Crash(math.MaxUint64)
	alike(t, m, p)
}

func TestFailP10_3(t *testing.T) {
	m := New(3)
	if m.Dead() {
		t.Error("a new one is dead")
	}
	fine(t, m.Write(0, mixed(1)), m.Flush(), m.Write(1, mixed(2)))
	for range 2 {
		m.Fail()
		if !m.Dead() || m.Size() != 3 {
			t.Errorf("dead: %v, of %d sectors", m.Dead(), m.Size())
		}
		waits(t, m)
	}
}

func TestReplaceP10_3(t *testing.T) {
	for _, dead := range []bool{false, true} {
		m := New(3)
		fine(t, m.Write(0, mixed(1)), m.Flush(), m.Write(1, mixed(2)), m.Write(0, mixed(3)))
		if dead {
			m.Fail()
		}
		m.Replace()
		if m.Dead() || m.Size() != 3 {
			t.Errorf("replaced: dead %v, of %d sectors", m.Dead(), m.Size())
		}
		waits(t, m)
		for range 2 {
			for at := range 3 {
				has(t, m, at, noughts)
			}
			m.Crash(math.MaxUint64)
		}
		fine(t, m.Write(2, mixed(4)), m.Flush())
		has(t, m, 2, mixed(4))
	}
}

func TestRotP10_3(t *testing.T) {
	m := New(3)
	fine(t, m.Write(0, mixed(1)), m.Flush())
	fine(t, m.Write(1, mixed(2)), m.Write(0, mixed(3)), m.Write(2, mixed(4)), m.Write(0, mixed(5)), m.Write(1, mixed(6)))
	if !m.Rot(0, mixed(7)) {
		t.Error("Rot: false")
	}
	waits(t, m, 1, 2, 1)
	has(t, m, 0, mixed(7))
	has(t, m, 1, mixed(6))
	has(t, m, 2, mixed(4))
	// The places of the writes that wait are those of the row as it is now.
	m.Crash(0b011)
	has(t, m, 0, mixed(7))
	has(t, m, 1, mixed(2))
	has(t, m, 2, mixed(4))
}

func TestRotLastsP10_3(t *testing.T) {
	m := New(2)
	if !m.Rot(1, mixed(1)) {
		t.Error("Rot: false")
	}
	waits(t, m)
	m.Crash()
	has(t, m, 1, mixed(1))
	fine(t, m.Write(1, mixed(2)))
	waits(t, m, 1)
	m.Crash()
	has(t, m, 1, mixed(1))
}

func TestRotRefusedP10_3(t *testing.T) {
	m, p := New(3), newPlain(3)
	fine(t, m.Write(0, mixed(1)), m.Flush(), m.Write(0, mixed(2)))
	fine(t, p.write(0, mixed(1)), p.flush(), p.write(0, mixed(2)))
	for _, at := range ints {
		for _, s := range unfit {
			if m.Rot(at, s) {
				t.Errorf("Rot(%d, of %d bytes)", at, len(s))
			}
		}
		if (at < 0 || at > 2) && m.Rot(at, mixed(3)) {
			t.Errorf("Rot(%d)", at)
		}
	}
	alike(t, m, p)
	m.Fail()
	p.fail()
	for _, at := range ints {
		if m.Rot(at, mixed(3)) {
			t.Errorf("Rot(%d) of a dead one", at)
		}
	}
	alike(t, m, p)
	m.Replace()
	p.replace()
	alike(t, m, p)
}

func TestCountsP10_4(t *testing.T) {
	m := New(2)
	check := func(want Counts) {
		t.Helper()
		if m.Counts() != want {
			t.Errorf("%v, want %v", m.Counts(), want)
		}
	}
	check(Counts{})
	m.Read(0)
	check(Counts{Reads: 1})
	m.Write(0, mixed(1))
	m.Write(0, mixed(1))
	check(Counts{Reads: 1, Writes: 2})
	m.Flush()
	m.Flush()
	m.Flush()
	check(Counts{Reads: 1, Writes: 2, Flushes: 3})
	m.Read(2)
	m.Read(-1)
	m.Write(2, mixed(1))
	m.Write(0, "short")
	m.Rot(0, mixed(2))
	m.Rot(9, mixed(2))
	m.Waiting()
	m.Crash(1)
	check(Counts{Reads: 1, Writes: 2, Flushes: 3})
	m.Fail()
	m.Read(0)
	m.Write(0, mixed(1))
	m.Flush()
	check(Counts{Reads: 1, Writes: 2, Flushes: 3})
	m.Replace()
	m.Replace()
	check(Counts{Reads: 1, Writes: 2, Flushes: 3, Replaced: 2})
	m.Fail()
	m.Replace()
	m.Read(1)
	check(Counts{Reads: 2, Writes: 2, Flushes: 3, Replaced: 3})
}

// TestCountsAtTheSameTimeP10_4: counts only rise while others are at work, and none is lost.
func TestCountsAtTheSameTimeP10_4(t *testing.T) {
	const workers, rounds = 8, 60
	m := New(4)
	var done sync.WaitGroup
	for worker := range workers {
		done.Add(1)
		go func() {
			defer done.Done()
			var last Counts
			for i := range rounds {
				m.Write((worker+i)%4, mixed(worker))
				m.Read(i % 4)
				m.Read(-1)
				m.Flush()
				m.Replace()
				c := m.Counts()
				if c.Reads < last.Reads+1 || c.Writes < last.Writes+1 || c.Flushes < last.Flushes+1 || c.Replaced < last.Replaced+1 {
					t.Errorf("%v behind %v", c, last)
				}
				last = c
			}
		}()
	}
	done.Wait()
	if all := int64(workers * rounds); m.Counts() != (Counts{all, all, all, all}) {
		t.Errorf("%v, want %d of each", m.Counts(), all)
	}
}

// TestAllCallsAtTheSameTimeP1: a sector is never seen half written.
func TestAllCallsAtTheSameTimeP1(t *testing.T) {
	m := New(2)
	var done sync.WaitGroup
	for worker := range 6 {
		done.Add(1)
		go func() {
			defer done.Done()
			for i := range 60 {
				m.Write(i%2, full(byte(worker)))
				if s, e := m.Read(i % 2); e == api.OK && s != full(s[0]) {
					t.Errorf("half written: %q", s)
				}
				m.Rot(i%2, full(byte(i)))
				m.Crash(uint64(i))
				m.Waiting()
				m.Size()
				if worker == 0 && i%10 == 0 {
					m.Fail()
				}
				if m.Dead() {
					m.Replace()
				}
			}
		}()
	}
	done.Wait()
}

func TestNilMemberP1(t *testing.T) {
	var m *Member
	for _, at := range ints {
		for _, s := range append(unfit, mixed(1)) {
			if e := m.Write(at, s); e != api.ErrNil {
				t.Errorf("Write: %d", e)
			}
			if m.Rot(at, s) {
				t.Error("Rot: true")
			}
		}
		if s, e := m.Read(at); s != "" || e != api.ErrNil {
			t.Errorf("Read: %q, %d", s, e)
		}
	}
	if e := m.Flush(); e != api.ErrNil {
		t.Errorf("Flush: %d", e)
	}
	m.Crash()
	m.Crash(1, 2, 3)
	m.Fail()
	m.Replace()
	if m.Size() != 0 || m.Dead() || len(m.Waiting()) != 0 || m.Counts() != (Counts{}) {
		t.Error("a nil member tells something")
	}
}

// TestMemberThatNewDidNotMakeP1: it has no sector.
func TestMemberThatNewDidNotMakeP1(t *testing.T) {
	m := new(Member)
	for _, at := range ints {
		if s, e := m.Read(at); s != "" || e != api.ErrRange {
			t.Errorf("Read(%d): %q, %d", at, s, e)
		}
		if e := m.Write(at, mixed(1)); e != api.ErrRange {
			t.Errorf("Write(%d): %d", at, e)
		}
		if m.Rot(at, mixed(1)) {
			t.Errorf("Rot(%d)", at)
		}
	}
	m.Crash(1)
	fine(t, m.Flush())
	m.Fail()
	m.Replace()
	if m.Size() != 0 || m.Dead() || len(m.Waiting()) != 0 {
		t.Error("a member that New didn't make has something")
	}
}

func TestMembersApartP2(t *testing.T) {
	one, two := New(2), New(2)
	fine(t, one.Write(0, mixed(1)), one.Flush(), one.Write(1, mixed(2)))
	alike(t, two, newPlain(2))
	two.Fail()
	waits(t, one, 1)
	has(t, one, 0, mixed(1))
	has(t, one, 1, mixed(2))
	two.Replace()
	one.Fail()
	has(t, two, 0, noughts)
	if two.Dead() {
		t.Error("the other one is dead")
	}
}

// TestWhatIsHandedInIsNotKept: bytes are as they were when they were written.
func TestWhatIsHandedInIsNotKept(t *testing.T) {
	m := New(2)
	text := strings.Repeat(mixed(1), 3)
	fine(t, m.Write(0, text[64:128]))
	kept := []uint64{1}
	m.Crash(kept...)
	kept[0] = 0
	has(t, m, 0, mixed(1))
	s, _ := m.Read(0)
	fine(t, m.Write(0, mixed(2)))
	if s != mixed(1) {
		t.Errorf("what was read changed: %q", s)
	}
}

// dice is a row of numbers that look like chance, and are the same each time.
type dice uint64

func (d *dice) roll(n int) int {
	*d = *d*6364136223846793005 + 1442695040888963407
	return int(uint64(*d) >> 33 % uint64(n))
}

// play makes one call, of the member and of the plain one.
func play(t *testing.T, d *dice, m *Member, p *plain) {
	t.Helper()
	at, s := d.roll(p.size+2)-1, mixed(d.roll(1000))
	if d.roll(20) == 0 {
		s = unfit[d.roll(5)]
	}
	switch d.roll(14) {
	case 0:
		if got, want := m.Flush(), p.flush(); got != want {
			t.Fatalf("Flush: %d, want %d", got, want)
		}
	case 1:
		kept := make([]uint64, d.roll(4))
		for i := range kept {
			kept[i] = uint64(d.roll(1<<31))<<33 ^ uint64(d.roll(1<<31))
		}
		m.Crash(kept...)
		p.crash(kept)
	case 2:
		if got, want := m.Rot(at, s), p.rot(at, s); got != want {
			t.Fatalf("Rot(%d): %v, want %v", at, got, want)
		}
	case 3:
		if d.roll(4) == 0 {
			m.Fail()
			p.fail()
		}
	case 4:
		if d.roll(4) == 0 || p.dead {
			m.Replace()
			p.replace()
		}
	default:
		if got, want := m.Write(at, s), p.write(at, s); got != want {
			t.Fatalf("Write(%d): %d, want %d", at, got, want)
		}
	}
}

func TestLongScripts(t *testing.T) {
	for seed := range 60 {
		d := dice(seed)
		size := 1 + d.roll(6)
		m, p := New(size), newPlain(size)
		for range 150 {
			play(t, &d, m, p)
			alike(t, m, p)
		}
		for range 40 {
			for range 1 + d.roll(90) {
				play(t, &d, m, p)
			}
			alike(t, m, p)
		}
	}
}

// TestManyWritesWait: the row has no end of its own.
func TestManyWritesWait(t *testing.T) {
	const writes = 100000
	m := New(256)
	for i := range writes {
		fine(t, m.Write(i%256, mixed(i)))
	}
	if n := len(m.Waiting()); n != writes {
		t.Fatalf("%d writes wait", n)
	}
	has(t, m, 0, mixed((writes-1)/256*256))
	kept := make([]uint64, writes/64+1)
	kept[70000/64] |= 1 << (70000 % 64)
	m.Crash(kept...)
	for at := range 256 {
		want := noughts
		if at == 70000%256 {
			want = mixed(70000)
		}
		has(t, m, at, want)
	}
}
