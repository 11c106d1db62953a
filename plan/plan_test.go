package plan

import (
	"fmt"
	"maps"
	"math"
	"math/rand"
	"slices"
	"strings"
	"sync"
	"testing"

	"trunnion/api"
	"trunnion/marks"
	"trunnion/repair"
)

// ints are numbers of all sizes: those about the edges of data columns and of kinds, and the least and greatest ones.
var ints = []int{math.MinInt, math.MinInt + 1, -1 << 40, -1 << 32, -64, -4, -2, -1, 0, 1, 2, 3, 4, 5, 28, 29, 30, 31, 32, 33, 63, 64, 65, 253, 254, 255, 256, 257, 1 << 16, 1 << 32, 1 << 40, math.MaxInt - 2, math.MaxInt - 1, math.MaxInt}

// bits are sets by their numbers' bits, as the model has them; no number above 63 is in one.
type bits uint64

// has: is a number in it?
func (b bits) has(i int) bool { return b>>i&1 == 1 }

// count: how many there are.
func (b bits) count() int {
	n := 0
	for i := range 64 {
		if b.has(i) {
			n++
		}
	}
	return n
}

// model is a state of which the chapter's words are asked one by one.
type model struct {
	data                     int
	dirty, have, known, lost bits
}

// state is the model as the layer has it.
func (m model) state() State {
	return State{Data: m.data, Dirty: marks.Set{uint64(m.dirty)}, Have: marks.Set{uint64(m.have)}, Known: marks.Set{uint64(m.known)}, Lost: marks.Set{uint64(m.lost)}}
}

// String tells a model in a failure.
func (m model) String() string {
	s := m.state()
	return fmt.Sprintf("{%d dirty %v have %v known %v lost %v}", m.data, s.Dirty.List(), s.Have.List(), s.Known.List(), s.Lost.List())
}

// good: may a stripe be so?
func (m model) good() bool {
	if m.data < 2 || m.data > 30 || m.dirty == 0 {
		return false
	}
	for i := range 64 {
		if m.dirty.has(i) && !m.have.has(i) {
			return false
		}
		if (m.have.has(i) || m.known.has(i)) && i >= m.data {
			return false
		}
		if m.lost.has(i) && i >= m.data+2 {
			return false
		}
	}
	return m.lost.count() <= 2
}

// full: may all be there, of which nothing is read?
func (m model) full() (bits, bool) {
	for i := range m.data {
		if !m.have.has(i) {
			return 0, false
		}
	}
	return 0, true
}

// great: what is read, if not all is there, and nothing of that is lost.
func (m model) great() (bits, bool) {
	reads := bits(0)
	for i := range m.data {
		if m.have.has(i) {
			continue
		}
		if m.lost.has(i) {
			return 0, false
		}
		reads |= 1 << i
	}
	return reads, reads != 0
}

// small: what is read, if nothing of that is lost, and a parity isn't.
func (m model) small() (bits, bool) {
	reads := bits(0)
	for i := range m.data {
		if !m.dirty.has(i) || m.known.has(i) {
			continue
		}
		if m.lost.has(i) {
			return 0, false
		}
		reads |= 1 << i
	}
	p, q := m.lost.has(m.data), m.lost.has(m.data+1)
	if !p {
		reads |= 1 << m.data
	}
	if !q {
		reads |= 1 << (m.data + 1)
	}
	return reads, !(p && q)
}

// whole: all that isn't lost.
func (m model) whole() (bits, bool) {
	reads := bits(0)
	for i := range m.data + 2 {
		if !m.lost.has(i) {
			reads |= 1 << i
		}
	}
	return reads, true
}

// ways are those that may be, of a good one.
func (m model) ways() []Plan {
	var l []Plan
	add := func(k Kind, reads bits, may bool) {
		if may {
			l = append(l, Plan{Kind: k, Reads: marks.Set{uint64(reads)}})
		}
	}
	reads, may := m.full()
	add(0, reads, may)
	reads, may = m.great()
	add(1, reads, may)
	reads, may = m.small()
	add(2, reads, may)
	reads, may = m.whole()
	add(3, reads, may)
	return l
}

// hold tells if Ways and Choose don't answer as the model does.
func (m model) hold(t *testing.T) {
	t.Helper()
	ways, e := Ways(m.state())
	chosen, eChosen := Choose(m.state())
	if !m.good() {
		if len(ways) != 0 || e != api.ErrForm || chosen != (Plan{}) || eChosen != api.ErrForm {
			t.Fatalf("%v: Ways are %v, %v, Choose is %v, %v; want %v", m, ways, e, chosen, eChosen, api.ErrForm)
		}
		return
	}
	want := m.ways()
	if e != api.OK || !slices.Equal(ways, want) {
		t.Fatalf("%v: Ways are %v, %v; want %v", m, ways, e, want)
	}
	first := want[0]
	for _, p := range want {
		if p.Reads.Count() < first.Reads.Count() {
			first = p
		}
	}
	if eChosen != api.OK || chosen != first {
		t.Fatalf("%v: Choose is %v, %v; want %v", m, chosen, eChosen, first)
	}
}

// goods are all good models of so many data columns.
func goods(data int) []model {
	var l []model
	for have := range bits(1) << data {
		for dirty := range bits(1) << data {
			if dirty == 0 || dirty&^have != 0 {
				continue
			}
			for known := range bits(1) << data {
				for lost := range bits(1) << (data + 2) {
					if lost.count() <= 2 {
						l = append(l, model{data, dirty, have, known, lost})
					}
				}
			}
		}
	}
	return l
}

// chance is a good model of so many data columns; often few columns are there, or all but a few.
func chance(r *rand.Rand, data int) model {
	all := bits(1)<<data - 1
	some := func() bits {
		b := bits(r.Uint64()) & all
		switch r.Intn(6) {
		case 0:
			return b & bits(r.Uint64()) & bits(r.Uint64())
		case 1:
			return (b | bits(r.Uint64()) | bits(r.Uint64())) & all
		case 2:
			return all
		case 3:
			return 0
		}
		return b
	}
	m := model{data: data, known: some(), have: some()}
	m.dirty = m.have&some() | 1<<r.Intn(data)
	m.have |= m.dirty
	for range r.Intn(3) {
		m.lost |= 1 << r.Intn(data+2)
	}
	// Both parities are lost too seldom by chance alone.
	if r.Intn(8) == 0 {
		m.lost = 3 << data
	}
	return m
}

func TestNameP25_1(t *testing.T) {
	for k, want := range []string{"full", "great", "small", "whole"} {
		if got := Kind(k).Name(); got != want {
			t.Errorf("the name of %d is %q, want %q", k, got, want)
		}
	}
	if Full != 0 || Great != 1 || Small != 2 || Whole != 3 {
		t.Errorf("the kinds are %d, %d, %d, %d", Full, Great, Small, Whole)
	}
	for _, k := range ints {
		if got := Kind(k).Name(); got != "" && (k < 0 || k > 3) {
			t.Errorf("the name of %d is %q, want none", k, got)
		}
	}
}

// told is ways in a line, each with what it reads.
func told(l []Plan) string {
	var s []string
	for _, p := range l {
		s = append(s, strings.ReplaceAll(p.Kind.Name()+fmt.Sprint(p.Reads.List()), " ", ","))
	}
	return strings.Join(s, " ")
}

func TestWaysP25_1(t *testing.T) {
	set := marks.Of
	for _, x := range []struct {
		s            State
		want, chosen string
	}{
		// The chapter's example.
		{State{4, set(1), set(1), set(), set()}, "great[0,2,3] small[1,4,5] whole[0,1,2,3,4,5]", "great[0,2,3]"},
		{State{4, set(1), set(1), set(1), set()}, "great[0,2,3] small[4,5] whole[0,1,2,3,4,5]", "small[4,5]"},
		{State{5, set(1), set(1), set(), set()}, "great[0,2,3,4] small[1,5,6] whole[0,1,2,3,4,5,6]", "small[1,5,6]"},
		// What is known of others than dirty ones changes nothing; what is there of these does.
		{State{4, set(1), set(1), set(0, 2, 3), set()}, "great[0,2,3] small[1,4,5] whole[0,1,2,3,4,5]", "great[0,2,3]"},
		{State{4, set(1), set(0, 1, 3), set(1), set()}, "great[2] small[4,5] whole[0,1,2,3,4,5]", "great[2]"},
		// All are there: nothing is read, whatever is lost; and there is no Great.
		{State{3, set(0, 1, 2), set(0, 1, 2), set(), set()}, "full[] small[0,1,2,3,4] whole[0,1,2,3,4]", "full[]"},
		{State{3, set(2), set(0, 1, 2), set(2), set(3, 4)}, "full[] whole[0,1,2]", "full[]"},
		{State{2, set(0), set(0, 1), set(), set(0, 1)}, "full[] whole[2,3]", "full[]"},
		// What would be read is lost.
		{State{3, set(0), set(0), set(), set(1)}, "small[0,3,4] whole[0,2,3,4]", "small[0,3,4]"},
		{State{3, set(0), set(0, 1), set(), set(1)}, "great[2] small[0,3,4] whole[0,2,3,4]", "great[2]"},
		{State{3, set(0), set(0), set(), set(0)}, "great[1,2] whole[1,2,3,4]", "great[1,2]"},
		{State{3, set(0), set(0), set(0), set(0)}, "great[1,2] small[3,4] whole[1,2,3,4]", "great[1,2]"},
		{State{3, set(0), set(0), set(), set(0, 2)}, "whole[1,3,4]", "whole[1,3,4]"},
		{State{3, set(0), set(0), set(), set(2, 3)}, "small[0,4] whole[0,1,4]", "small[0,4]"},
		{State{3, set(0), set(0), set(), set(2, 4)}, "small[0,3] whole[0,1,3]", "small[0,3]"},
		{State{3, set(0), set(0), set(0), set(3, 4)}, "great[1,2] whole[0,1,2]", "great[1,2]"},
		// As many are read: the first one goes.
		{State{2, set(0), set(0), set(), set(1, 2)}, "small[0,3] whole[0,3]", "small[0,3]"},
		{State{2, set(0), set(0), set(0), set(3)}, "great[1] small[2] whole[0,1,2]", "great[1]"},
	} {
		ways, e := Ways(x.s)
		if told(ways) != x.want || e != api.OK {
			t.Errorf("Ways of %v: %s, %v; want %s", x.s, told(ways), e, x.want)
		}
		p, e := Choose(x.s)
		if told([]Plan{p}) != x.chosen || e != api.OK {
			t.Errorf("Choose of %v: %s, %v; want %s", x.s, told([]Plan{p}), e, x.chosen)
		}
	}
}

// Of two data columns all sets of them, of P, of Q, and of one behind these, good or not.
func TestAllStatesOfTwoP25_1(t *testing.T) {
	for at := range bits(1) << 20 {
		model{2, at & 31, at >> 5 & 31, at >> 10 & 31, at >> 15}.hold(t)
	}
}

func TestAllGoodStatesP25_1(t *testing.T) {
	for data := 2; data <= 4; data++ {
		for _, m := range goods(data) {
			if !m.good() {
				t.Fatalf("%v is no good model", m)
			}
			m.hold(t)
		}
	}
}

func TestStatesOfEverySizeP25_1(t *testing.T) {
	r := rand.New(rand.NewSource(25))
	for data := 2; data <= 30; data++ {
		for range 2000 {
			chance(r, data).hold(t)
		}
	}
}

// refused holds that no way is told of a state that isn't good, and nothing made, whatever the way and the bytes are.
func refused(t *testing.T, s State) {
	t.Helper()
	ways, e := Ways(s)
	if len(ways) != 0 || e != api.ErrForm {
		t.Errorf("Ways of %v: %v, %v; want %v", s, ways, e, api.ErrForm)
	}
	p, e := Choose(s)
	if p != (Plan{}) || e != api.ErrForm {
		t.Errorf("Choose of %v: %v, %v; want %v", s, p, e, api.ErrForm)
	}
	for _, k := range []Kind{-1, Full, Great, Small, Whole, 4} {
		for _, reads := range []marks.Set{{}, marks.Of(0, 1), marks.Upto(s.Data)} {
			for _, all := range []Columns{nil, {0: "x"}, whole(32)} {
				made, e := Make(s, Plan{k, reads}, all, all, all)
				if len(made) != 0 || e != api.ErrForm {
					t.Errorf("Make of %v by %d is %d columns, %v; want %v", s, k, len(made), e, api.ErrForm)
				}
			}
		}
	}
}

// whole is so many columns, each with Block bytes.
func whole(n int) Columns {
	c := Columns{}
	for i := range n {
		c[i] = sample(uint64(i))
	}
	return c
}

func TestNoSuchNumberOfDataColumnsP25_1(t *testing.T) {
	for _, data := range ints {
		s := State{Data: data, Dirty: marks.Of(0), Have: marks.Of(0)}
		if data < 2 || data > 30 {
			refused(t, s)
			s.Have = marks.Upto(max(data, 1))
			refused(t, s)
		} else if ways, e := Ways(s); len(ways) == 0 || e != api.OK {
			t.Errorf("Ways of %d data columns: %v, %v", data, ways, e)
		}
	}
	refused(t, State{})
}

func TestStatesThatAreNotGoodP25_1(t *testing.T) {
	for data := 2; data <= 30; data++ {
		good := State{Data: data, Dirty: marks.Of(1), Have: marks.Of(1)}
		s := good
		s.Dirty = marks.Of()
		refused(t, s)
		s.Have = marks.Upto(data)
		refused(t, s)
		s.Have = marks.Of(0)
		refused(t, s)
		s.Dirty = marks.Of(1)
		refused(t, s)
		s.Dirty = marks.Of(0, 1)
		refused(t, s)
		for _, i := range []int{data, data + 1, data + 2, 63, 64, 127, 128, 192, 255} {
			s = good
			s.Have = s.Have.With(i)
			refused(t, s)
			s.Dirty = s.Dirty.With(i)
			refused(t, s)
			s.Have = s.Have.Without(i)
			refused(t, s)
			s = good
			s.Known = marks.Of(i)
			refused(t, s)
			s.Known = marks.Upto(data).With(i)
			refused(t, s)
			s = good
			s.Lost = marks.Of(i)
			if i > data+1 {
				refused(t, s)
			} else if _, e := Ways(s); e != api.OK {
				t.Errorf("Ways of %v: %v", s, e)
			}
		}
		for _, lost := range []marks.Set{marks.Of(0, 1, data), marks.Of(0, data, data+1), marks.Upto(data + 2), marks.Upto(256), marks.Of(data, data+1, data+2)} {
			s = good
			s.Lost = lost
			refused(t, s)
		}
	}
}

// doubled multiplies by 2 as layer 1's chapter words it: the polynomial times x, modulo 11d.
func doubled(b byte) byte {
	whole := int(b) << 1
	if whole > 0xff {
		whole ^= 0x11d
	}
	return byte(whole)
}

// weighted is a byte doubled i times.
func weighted(b byte, i int) byte {
	for range i {
		b = doubled(b)
	}
	return b
}

// sample is a column's bytes, other ones for each seed.
func sample(seed uint64) string {
	b := make([]byte, api.Block)
	x := seed*0x9e3779b97f4a7c15 + 0x243f6a8885a308d3
	for i := range b {
		x = x*6364136223846793005 + 1442695040888963407
		b[i] = byte(x >> 56)
	}
	return string(b)
}

// changed adds a column, and times its weight, to two parities.
func changed(p, q string, i int, s string) (string, string) {
	sumP, sumQ := []byte(p), []byte(q)
	for at := range len(s) {
		sumP[at] ^= s[at]
		sumQ[at] ^= weighted(s[at], i)
	}
	return string(sumP), string(sumQ)
}

// parities are those of data columns, byte by byte.
func parities(data []string) (string, string) {
	p := strings.Repeat("\x00", api.Block)
	q := p
	for i, s := range data {
		p, q = changed(p, q, i, s)
	}
	return p, q
}

// stripe is the bytes that there are of a model's stripe: what members have, and what they are to have.
type stripe struct {
	model
	on, to []string
}

// stripeOf is one whose parities fit, or don't; what is there and isn't dirty is as members have it.
func (m model) stripeOf(seed uint64, fits bool) stripe {
	x := stripe{model: m}
	for i := range m.data + 2 {
		x.on = append(x.on, sample(seed*1000+uint64(i)))
	}
	if fits {
		x.on[m.data], x.on[m.data+1] = parities(x.on[:m.data])
	}
	x.to = slices.Clone(x.on)
	for i := range m.data {
		if m.dirty.has(i) {
			x.to[i] = sample(seed*1000 + 500 + uint64(i))
		}
	}
	return x
}

// of are the columns of a set.
func of(l []string, s marks.Set) Columns {
	c := Columns{}
	for _, i := range s.List() {
		c[i] = l[i]
	}
	return c
}

// want is what is to be written by a way, with these bytes in P and Q.
func (x stripe) want(k Kind, p, q string) Columns {
	c := of(x.to, x.state().Dirty)
	if k != Small || !x.lost.has(x.data) {
		c[x.data] = p
	}
	if k != Small || !x.lost.has(x.data+1) {
		c[x.data+1] = q
	}
	return c
}

// makes holds what Make answers.
func makes(t *testing.T, s State, p Plan, now, old, read, want Columns) {
	t.Helper()
	got, e := Make(s, p, now, old, read)
	if e != api.OK || !maps.Equal(got, want) {
		t.Fatalf("Make of %v by %s: %v, columns %v, want %v; or their bytes are others", s, p.Kind.Name(), e, slices.Sorted(maps.Keys(got)), slices.Sorted(maps.Keys(want)))
	}
}

// allWays holds that each way of a whole row comes to the parities of what is to be.
func (x stripe) allWays(t *testing.T) {
	t.Helper()
	s := x.state()
	p, q := parities(x.to[:x.data])
	for _, w := range x.ways() {
		makes(t, s, w, of(x.to, s.Have), of(x.on, s.Known), of(x.on, w.Reads), x.want(w.Kind, p, q))
	}
}

func TestAllWaysComeToTheSameP25_4(t *testing.T) {
	for data := 2; data <= 4; data++ {
		for i, m := range goods(data) {
			m.stripeOf(uint64(i), true).allWays(t)
		}
	}
}

func TestAllWaysOfEverySizeP25_4(t *testing.T) {
	r := rand.New(rand.NewSource(254))
	for data := 2; data <= 30; data++ {
		for i := range 100 {
			chance(r, data).stripeOf(uint64(i), true).allWays(t)
		}
	}
}

// byWords are P and Q of a way, of a stripe whose parities need not fit, as P25.3 words it.
func (x stripe) byWords(t *testing.T, w Plan, now, old, read Columns) (string, string) {
	t.Helper()
	s := x.state()
	if w.Kind == Small {
		p, q := strings.Repeat("\x00", api.Block), strings.Repeat("\x00", api.Block)
		if w.Reads.Has(x.data) {
			p = read[x.data]
		}
		if w.Reads.Has(x.data + 1) {
			q = read[x.data+1]
		}
		for _, i := range s.Dirty.List() {
			before := read[i]
			if s.Known.Has(i) {
				before = old[i]
			}
			p, q = changed(p, q, i, before)
			p, q = changed(p, q, i, now[i])
		}
		return p, q
	}
	row := make([]string, x.data+2)
	for i := range row {
		row[i] = read[i]
	}
	if w.Kind == Whole {
		fixed, e := repair.New().Fix(row, s.Lost.List())
		if e != api.OK {
			t.Fatal(e)
		}
		row = fixed
	}
	for _, i := range s.Have.List() {
		row[i] = now[i]
	}
	return parities(row[:x.data])
}

// astray holds each way of a stripe where all bytes that are handed in have nothing to do with one another: so it shows which of them a way takes.
func (x stripe) astray(t *testing.T, seed uint64) {
	t.Helper()
	s := x.state()
	now, old := Columns{}, Columns{}
	for i := range x.data {
		if x.have.has(i) {
			x.to[i] = sample(seed + 100 + uint64(i))
			now[i] = x.to[i]
		}
		if x.known.has(i) {
			old[i] = sample(seed + 200 + uint64(i))
		}
	}
	for _, w := range x.ways() {
		read := of(x.on, w.Reads)
		p, q := x.byWords(t, w, now, old, read)
		makes(t, s, w, now, old, read, x.want(w.Kind, p, q))
	}
}

func TestWhatEachWayTakesP25_3(t *testing.T) {
	for data := 2; data <= 3; data++ {
		for i, m := range goods(data) {
			m.stripeOf(uint64(i), false).astray(t, uint64(i)*7919)
		}
	}
	r := rand.New(rand.NewSource(253))
	for data := 2; data <= 30; data++ {
		for i := range 60 {
			chance(r, data).stripeOf(uint64(i), false).astray(t, uint64(i)*104729)
		}
	}
}

// one is a column's bytes, all of them this one.
func one(b byte) string {
	return strings.Repeat(string([]byte{b}), api.Block)
}

// Ordinary stripes, of numbers that can be reckoned by hand.
func TestMakeP25_3(t *testing.T) {
	set := marks.Of
	for _, x := range []struct {
		s              State
		p              Plan
		now, old, read Columns
		want           Columns
	}{
		// Of 1, 2 and 4 P is 7, and Q is 1, 4 and 10 together, in digits of 16: 15.
		{State{3, set(0), set(0, 1, 2), set(), set()}, Plan{Full, set()}, Columns{0: one(1), 1: one(2), 2: one(4)}, nil, nil, Columns{0: one(1), 3: one(7), 4: one(0x15)}},
		{State{3, set(0, 1), set(0, 1), set(), set()}, Plan{Great, set(2)}, Columns{0: one(1), 1: one(2)}, nil, Columns{2: one(4)}, Columns{0: one(1), 1: one(2), 3: one(7), 4: one(0x15)}},
		// Of P and Q that fit nothing, only the change is added: 3 to P, and 6 to Q.
		{State{3, set(1), set(1), set(), set()}, Plan{Small, set(1, 3, 4)}, Columns{1: one(1)}, nil, Columns{1: one(2), 3: one(0x50), 4: one(0x60)}, Columns{1: one(1), 3: one(0x53), 4: one(0x66)}},
		{State{3, set(1), set(1), set(1), set()}, Plan{Small, set(3, 4)}, Columns{1: one(1)}, Columns{1: one(2)}, Columns{3: one(0x50), 4: one(0x60)}, Columns{1: one(1), 3: one(0x53), 4: one(0x66)}},
		{State{3, set(1), set(1), set(1), set(3)}, Plan{Small, set(4)}, Columns{1: one(1)}, Columns{1: one(2)}, Columns{4: one(0x60)}, Columns{1: one(1), 4: one(0x66)}},
		{State{3, set(1), set(1), set(1), set(4)}, Plan{Small, set(3)}, Columns{1: one(1)}, Columns{1: one(2)}, Columns{3: one(0x50)}, Columns{1: one(1), 3: one(0x53)}},
		// Both dirty ones, of which one is known, and a third one that is there.
		{State{3, set(0, 1), set(0, 1, 2), set(0), set()}, Plan{Small, set(1, 3, 4)}, Columns{0: one(1), 1: one(2), 2: one(0xff)}, Columns{0: one(8)}, Columns{1: one(0x10), 3: one(0), 4: one(0)}, Columns{0: one(1), 1: one(2), 3: one(0x1b), 4: one(0x2d)}},
		// The column 2 is brought back as 4 by P and the old 0 and 1; then 0 is changed.
		{State{3, set(0), set(0), set(), set(2, 4)}, Plan{Whole, set(0, 1, 3)}, Columns{0: one(8)}, nil, Columns{0: one(1), 1: one(2), 3: one(7)}, Columns{0: one(8), 3: one(0xe), 4: one(0x1c)}},
		// Both parities are lost, and told.
		{State{3, set(0), set(0), set(), set(3, 4)}, Plan{Whole, set(0, 1, 2)}, Columns{0: one(8)}, nil, Columns{0: one(1), 1: one(2), 2: one(4)}, Columns{0: one(8), 3: one(0xe), 4: one(0x1c)}},
		{State{3, set(0), set(0), set(), set(3, 4)}, Plan{Great, set(1, 2)}, Columns{0: one(8)}, nil, Columns{1: one(2), 2: one(4)}, Columns{0: one(8), 3: one(0xe), 4: one(0x1c)}},
		{State{2, set(0), set(0, 1), set(), set(2, 3)}, Plan{Full, set()}, Columns{0: one(8), 1: one(2)}, nil, nil, Columns{0: one(8), 2: one(0xa), 3: one(0xc)}},
		// A dirty one that is lost is to be written too.
		{State{3, set(0), set(0), set(), set(0, 1)}, Plan{Whole, set(2, 3, 4)}, Columns{0: one(8)}, nil, Columns{2: one(4), 3: one(7), 4: one(0x15)}, Columns{0: one(8), 3: one(0xe), 4: one(0x1c)}},
		{State{3, set(0), set(0), set(0), set(0)}, Plan{Small, set(3, 4)}, Columns{0: one(8)}, Columns{0: one(1)}, Columns{3: one(7), 4: one(0x15)}, Columns{0: one(8), 3: one(0xe), 4: one(0x1c)}},
		// What is there and isn't dirty goes into its place by Whole, not what was read of it.
		{State{3, set(0), set(0, 1), set(), set()}, Plan{Whole, set(0, 1, 2, 3, 4)}, Columns{0: one(8), 1: one(2)}, nil, Columns{0: one(1), 1: one(0x70), 2: one(4), 3: one(7), 4: one(0x15)}, Columns{0: one(8), 3: one(0xe), 4: one(0x1c)}},
	} {
		makes(t, x.s, x.p, x.now, x.old, x.read, x.want)
	}
}

// What is handed in of columns that none asked for counts for nothing, whatever its length.
func TestOtherColumnsCountForNothingP25_2(t *testing.T) {
	r := rand.New(rand.NewSource(252))
	for i := range 3000 {
		m := chance(r, 2+r.Intn(5))
		x, s := m.stripeOf(uint64(i), true), m.state()
		p, q := parities(x.to[:x.data])
		stray := func(l []string, s marks.Set) Columns {
			c := of(l, s)
			for _, at := range []int{math.MinInt, -1, 0, 1, 2, 3, 4, 5, 6, 7, 8, 9, 32, 64, 255, 256, math.MaxInt} {
				if s.Has(at) || r.Intn(3) == 0 {
					continue
				}
				c[at] = []string{"", "x", one('x'), one('x') + "x", sample(r.Uint64())}[r.Intn(5)]
			}
			return c
		}
		for _, w := range m.ways() {
			makes(t, s, w, stray(x.to, s.Have), stray(x.on, s.Known), stray(x.on, w.Reads), x.want(w.Kind, p, q))
		}
	}
}

// denied holds that Make answers an error, and nothing beside it.
func denied(t *testing.T, s State, p Plan, now, old, read Columns, want api.Errno) {
	t.Helper()
	if got, e := Make(s, p, now, old, read); len(got) != 0 || e != want {
		t.Errorf("Make of %v by %v: %d columns, %v; want %v", s, p, len(got), e, want)
	}
}

func TestWayThatIsNoneP25_2(t *testing.T) {
	all := whole(32)
	for data := 2; data <= 3; data++ {
		for _, m := range goods(data) {
			s, ways := m.state(), m.ways()
			for k := Kind(-1); k <= 4; k++ {
				for reads := range uint64(1) << (data + 3) {
					p := Plan{k, marks.Set{reads}}
					if !slices.Contains(ways, p) {
						denied(t, s, p, all, all, all, api.ErrForm)
					}
				}
			}
		}
	}
}

func TestKindThatIsNoneP25_2(t *testing.T) {
	s := State{Data: 3, Dirty: marks.Of(1), Have: marks.Of(0, 1, 2)}
	all := whole(32)
	for _, k := range ints {
		for _, reads := range []marks.Set{{}, marks.Of(1, 3, 4), marks.Upto(5), marks.Upto(256)} {
			p := Plan{Kind(k), reads}
			if p != (Plan{Full, marks.Of()}) && p != (Plan{Small, marks.Of(1, 3, 4)}) && p != (Plan{Whole, marks.Upto(5)}) {
				denied(t, s, p, all, all, all, api.ErrForm)
				denied(t, s, p, nil, nil, nil, api.ErrForm)
			}
		}
	}
	for _, i := range []int{5, 63, 64, 128, 255} {
		denied(t, s, Plan{Full, marks.Of(i)}, all, all, all, api.ErrForm)
		denied(t, s, Plan{Small, marks.Of(1, 3, 4, i)}, all, all, all, api.ErrForm)
		denied(t, s, Plan{Whole, marks.Upto(5).With(i)}, all, all, all, api.ErrForm)
	}
}

// wrong are columns of which one isn't there, or hasn't as many bytes as a column has.
func wrong(c Columns, i int) []Columns {
	gone := maps.Clone(c)
	delete(gone, i)
	l := []Columns{gone}
	for _, s := range []string{"", "x", c[i][1:], c[i] + "x", c[i] + c[i], strings.Repeat("x", api.MaxBuffer+1)} {
		other := maps.Clone(c)
		other[i] = s
		l = append(l, other)
	}
	return l
}

// Each column that is to be there counts, whether the way asks for it or not.
func TestColumnsThatAreNotThereP25_2(t *testing.T) {
	for data := 2; data <= 3; data++ {
		for at, m := range goods(data) {
			s, x := m.state(), m.stripeOf(uint64(at), true)
			now, old := of(x.to, s.Have), of(x.on, s.Known)
			for _, w := range m.ways() {
				read := of(x.on, w.Reads)
				for i := range now {
					for _, c := range wrong(now, i) {
						denied(t, s, w, c, old, read, api.ErrArg)
					}
				}
				for i := range old {
					for _, c := range wrong(old, i) {
						denied(t, s, w, now, c, read, api.ErrArg)
					}
				}
				for i := range read {
					for _, c := range wrong(read, i) {
						denied(t, s, w, now, old, c, api.ErrArg)
					}
				}
			}
		}
	}
}

func TestNilColumnsP25_2(t *testing.T) {
	s := State{Data: 2, Dirty: marks.Of(0), Have: marks.Of(0, 1)}
	now := Columns{0: one(1), 1: one(2)}
	want := Columns{0: one(1), 2: one(3), 3: one(5)}
	for _, none := range []Columns{nil, {}} {
		makes(t, s, Plan{Full, marks.Of()}, now, none, none, want)
		denied(t, s, Plan{Full, marks.Of()}, none, none, none, api.ErrArg)
		denied(t, s, Plan{Small, marks.Of(0, 2, 3)}, now, none, none, api.ErrArg)
		denied(t, s, Plan{Whole, marks.Upto(4)}, now, none, none, api.ErrArg)
		s.Known = marks.Of(1)
		denied(t, s, Plan{Full, marks.Of()}, now, none, none, api.ErrArg)
		s.Known = marks.Of()
	}
}

// What is handed in stays as it is, also where one map is handed in as all three; what is answered is new each time.
func TestListsAreNewRule4(t *testing.T) {
	r := rand.New(rand.NewSource(4))
	for i := range 300 {
		m := chance(r, 2+r.Intn(4))
		s, x := m.state(), m.stripeOf(uint64(i), true)
		p, q := parities(x.to[:x.data])
		for at, w := range m.ways() {
			now, old, read := of(x.to, s.Have), of(x.on, s.Known), of(x.on, w.Reads)
			got, _ := Make(s, w, now, old, read)
			clear(got)
			got[0] = "x"
			if !maps.Equal(now, of(x.to, s.Have)) || !maps.Equal(old, of(x.on, s.Known)) || !maps.Equal(read, of(x.on, w.Reads)) {
				t.Fatalf("Make of %v by %s changes what was handed in", m, w.Kind.Name())
			}
			makes(t, s, w, now, old, read, x.want(w.Kind, p, q))
			ways, _ := Ways(s)
			ways[at] = Plan{}
			m.hold(t)
		}
	}
	all := whole(6)
	s := State{Data: 4, Dirty: marks.Of(1), Have: marks.Of(1)}
	for _, w := range []Plan{{Great, marks.Of(0, 2, 3)}, {Small, marks.Of(1, 4, 5)}, {Whole, marks.Upto(6)}} {
		if _, e := Make(s, w, all, all, all); e != api.OK || !maps.Equal(all, whole(6)) {
			t.Errorf("Make by %s of one map, handed in as all: %v, or the map is another one", w.Kind.Name(), e)
		}
	}
}

// All is asked at the same time, of the same maps.
func TestAtTheSameTimeP2(t *testing.T) {
	s := State{Data: 4, Dirty: marks.Of(1), Have: marks.Of(1), Known: marks.Of(1), Lost: marks.Of(0, 2)}
	m := model{4, 2, 2, 2, 5}
	x := m.stripeOf(1, true)
	p, q := parities(x.to[:4])
	now, old := of(x.to, s.Have), of(x.on, s.Known)
	var all sync.WaitGroup
	for range 8 {
		all.Go(func() {
			for range 50 {
				ways, e := Ways(s)
				if e != api.OK || !slices.Equal(ways, m.ways()) {
					t.Errorf("Ways are %v, %v", ways, e)
				}
				for _, w := range ways {
					if got, e := Make(s, w, now, old, of(x.on, w.Reads)); e != api.OK || !maps.Equal(got, x.want(w.Kind, p, q)) {
						t.Errorf("Make by %s: %v, or other columns", w.Kind.Name(), e)
						return
					}
				}
			}
		})
	}
	all.Wait()
}
