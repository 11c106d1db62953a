package wal

import (
	"fmt"
	"math/rand"
	"slices"
	"strings"
	"testing"

	"trunnion/api"
	"trunnion/bay"
	"trunnion/member"
	"trunnion/record"
)

// full is a sector's bytes, all of them alike.
func full(c byte) string {
	return strings.Repeat(string([]byte{c}), 64)
}

// w is a write of a sector whose bytes are all alike.
func w(member, stripe int, c byte) record.Write {
	return record.Write{Member: member, Stripe: stripe, Data: full(c)}
}

// many are so many writes, to the members of a bay of four in turn.
func many(n int) []record.Write {
	var all []record.Write
	for i := range n {
		all = append(all, w(i%4, i, byte('A'+i)))
	}
	return all
}

// bad are lists of writes of which no good batch can be made.
func bad() map[string][]record.Write {
	return map[string][]record.Write{
		"too many":         many(45),
		"a member too far": {w(32, 0, 'a')},
		"a member below 0": {w(0, 0, 'a'), w(-1, 0, 'a')},
		"a stripe too far": {w(0, 64, 'a')},
		"a stripe below 0": {w(0, -1, 'a')},
		"no data":          {{Member: 0, Stripe: 0}},
		"data too short":   {{Data: full('a')[1:]}},
		"data too long":    {{Data: full('a') + "a"}},
	}
}

// step is a Write of a bay, or a Flush, of which the sector is -1.
type step struct {
	member, at int
	bytes      string
}

// plain is a log by the chapter's words: each call is a row of steps that are reckoned ahead.
type plain struct {
	bay    *bay.Bay
	seq    int64
	broken bool
}

func (p *plain) live() []int {
	var all []int
	for i := range p.bay.Size() {
		if !p.bay.Member(i).Dead() {
			all = append(all, i)
		}
	}
	return all
}

// places are the sector of a number's mark, and the first one of its half.
func places(seq int64) (int, int) {
	if seq%2 == 0 {
		return 2, 4
	}
	return 3, 52
}

// toAll are the steps by which sectors are written to all, from a place on.
func toAll(live []int, first int, sectors ...string) []step {
	var all []step
	for _, i := range live {
		for k, s := range sectors {
			all = append(all, step{i, first + k, s})
		}
		all = append(all, step{i, -1, ""})
	}
	return all
}

// doing are the steps by which a batch is done.
func doing(live []int, writes []record.Write) []step {
	var all []step
	for _, x := range writes {
		if slices.Contains(live, x.Member) {
			all = append(all, step{x.Member, 100 + x.Stripe, x.Data})
		}
	}
	return append(all, toAll(live, 0)...)
}

// make takes steps up to the one at which the power fails: has it?
func (p *plain) make(steps []step) bool {
	for _, x := range steps {
		var e api.Errno
		if x.at < 0 {
			e = p.bay.Flush(x.member)
		} else {
			e = p.bay.Write(x.member, x.at, x.bytes)
		}
		if e == api.ErrPower {
			p.broken = true
			return true
		}
	}
	return false
}

func sectorOf(m record.Mark) string {
	s, e := record.Put(m)
	if e != api.OK {
		panic(e)
	}
	return s
}

func sectorsOf(seq int64, writes []record.Write) []string {
	s, e := record.Lay(record.Batch{Seq: seq, Writes: writes})
	if e != api.OK {
		panic(e)
	}
	return s
}

func (p *plain) commit(writes []record.Write) api.Errno {
	if p.broken {
		return api.ErrState
	}
	if p.seq == 9007199254740992 {
		return api.ErrFull
	}
	sectors, e := record.Lay(record.Batch{Seq: p.seq + 1, Writes: writes})
	live := p.live()
	if e != api.OK {
		return e
	}
	if len(live) == 0 {
		return api.ErrFailed
	}
	mark, half := places(p.seq + 1)
	if p.make(toAll(live, half, sectors...)) || p.make(toAll(live, mark, sectorOf(record.Mark{Seq: p.seq + 1, Sectors: len(sectors)}))) {
		return api.ErrPower
	}
	p.seq++
	if p.make(doing(live, writes)) {
		return api.ErrPower
	}
	return api.OK
}

func (p *plain) recover() (bool, api.Errno) {
	live := p.live()
	if len(live) == 0 {
		return false, api.ErrFailed
	}
	if p.bay.Off() { // nothing is read, and reading takes no step
		p.broken = true
		return false, api.ErrPower
	}
	var mark record.Mark
	for _, i := range live {
		for _, at := range []int{2, 3} {
			s, _ := p.bay.Read(i, at)
			if m, e := record.Get(s); e == api.OK && m.Seq > mark.Seq {
				mark = m
			}
		}
	}
	at, half := places(mark.Seq)
	done := false
	for _, i := range live {
		var sectors []string
		for k := range mark.Sectors {
			if s, e := p.bay.Read(i, half+k); e == api.OK {
				sectors = append(sectors, s)
			}
		}
		b, e := record.Read(sectors)
		if len(sectors) < mark.Sectors || e != api.OK || b.Seq != mark.Seq {
			continue
		}
		if p.make(toAll(live, at, sectorOf(mark))) || p.make(doing(live, b.Writes)) {
			return false, api.ErrPower
		}
		done = true
		break
	}
	p.seq, p.broken = mark.Seq, false
	return done, api.OK
}

// twins holds all that a member tells against what another one does.
func twins(m, want *member.Member) error {
	if m.Size() != want.Size() || m.Dead() != want.Dead() || !slices.Equal(m.Waiting(), want.Waiting()) || m.Counts() != want.Counts() {
		return fmt.Errorf("size %d, dead %v, waiting %v, counts %v; want %d, %v, %v, %v", m.Size(), m.Dead(), m.Waiting(), m.Counts(), want.Size(), want.Dead(), want.Waiting(), want.Counts())
	}
	for at := range want.Size() {
		s, e := m.Read(at)
		if bytes, f := want.Read(at); s != bytes || e != f {
			return fmt.Errorf("sector %d: %q, %d; want %q, %d", at, s, e, bytes, f)
		}
	}
	return nil
}

// alike holds a log and its bay against the plain one and its own.
func alike(t *testing.T, l *Log, p *plain) {
	t.Helper()
	if l.Seq() != p.seq || l.Broken() != p.broken {
		t.Fatalf("Seq %d, Broken %v; want %d, %v", l.Seq(), l.Broken(), p.seq, p.broken)
	}
	if l.bay.Steps() != p.bay.Steps() || l.bay.Off() != p.bay.Off() {
		t.Fatalf("steps %d, off %v; want %d, %v", l.bay.Steps(), l.bay.Off(), p.bay.Steps(), p.bay.Off())
	}
	for i := range p.bay.Size() {
		if err := twins(l.bay.Member(i), p.bay.Member(i)); err != nil {
			t.Fatalf("member %d: %v", i, err)
		}
	}
}

// has holds a sector of a member against the bytes that it should have.
func has(t *testing.T, b *bay.Bay, i, at int, want string) {
	t.Helper()
	if s, e := b.Read(i, at); s != want || e != api.OK {
		t.Errorf("member %d, sector %d: %q, %d; want %q", i, at, s, e, want)
	}
}

// commits holds what Commit answers, and the log's number then.
func commits(t *testing.T, l *Log, writes []record.Write, want api.Errno, seq int64) {
	t.Helper()
	if e := l.Commit(writes); e != want || l.Seq() != seq {
		t.Fatalf("Commit: %d, Seq %d; want %d, %d", e, l.Seq(), want, seq)
	}
}

// recovers holds what Recover answers, and what the log is then.
func recovers(t *testing.T, l *Log, done bool, want api.Errno, seq int64, broken bool) {
	t.Helper()
	if d, e := l.Recover(); d != done || e != want || l.Seq() != seq || l.Broken() != broken {
		t.Fatalf("Recover: %v, %d, Seq %d, Broken %v; want %v, %d, %d, %v", d, e, l.Seq(), l.Broken(), done, want, seq, broken)
	}
}

func TestExample(t *testing.T) {
	b := bay.New(4, 164)
	l := New(b)
	commits(t, l, []record.Write{w(0, 0, 'a'), w(1, 0, 'b')}, api.OK, 1)
	has(t, b, 0, 100, full('a'))
	has(t, b, 1, 100, full('b'))
	has(t, b, 2, 100, full(0))
	has(t, b, 3, 100, full(0))
}

func TestNilP15_1(t *testing.T) {
	if l := New(nil); l != nil {
		t.Errorf("New(nil): %v", l)
	}
	var l *Log
	if l.Seq() != 0 || l.Broken() {
		t.Errorf("of a nil log: Seq %d, Broken %v", l.Seq(), l.Broken())
	}
	for _, writes := range bad() {
		if e := l.Commit(writes); e != api.ErrNil {
			t.Errorf("Commit of a nil log: %d", e)
		}
	}
	if e := l.Commit(nil); e != api.ErrNil {
		t.Errorf("Commit of a nil log: %d", e)
	}
	if done, e := l.Recover(); done || e != api.ErrNil {
		t.Errorf("Recover of a nil log: %v, %d", done, e)
	}
}

// TestNewP15_1: a log begins at 0, whatever its bay has, and asks nothing of that.
func TestNewP15_1(t *testing.T) {
	b := bay.New(4, 164)
	commits(t, New(b), many(3), api.OK, 1)
	b.Cut(0)
	steps, counts := b.Steps(), b.Member(0).Counts()
	l := New(b)
	if l.Seq() != 0 || l.Broken() {
		t.Errorf("a new log: Seq %d, Broken %v", l.Seq(), l.Broken())
	}
	if b.Steps() != steps || b.Member(0).Counts() != counts || !b.Off() {
		t.Error("New has asked something of the bay")
	}
}

// TestSeqBrokenP15_1: both tell what is, and change nothing.
func TestSeqBrokenP15_1(t *testing.T) {
	b := bay.New(4, 164)
	l := New(b)
	for seq := range int64(5) {
		for range 3 {
			if l.Seq() != seq || l.Broken() {
				t.Fatalf("Seq %d, Broken %v behind %d batches", l.Seq(), l.Broken(), seq)
			}
		}
		commits(t, l, nil, api.OK, seq+1)
	}
	b.Cut(0)
	commits(t, l, nil, api.ErrPower, 5)
	for range 3 {
		if !l.Broken() || l.Seq() != 5 {
			t.Fatalf("Seq %d, Broken %v without power", l.Seq(), l.Broken())
		}
	}
}

// TestWhereP15_2: what Commit writes where, by the sectors' own numbers.
func TestWhereP15_2(t *testing.T) {
	b := bay.New(5, 164)
	l := New(b)
	b.Member(3).Fail()
	first, second := []record.Write{w(0, 63, 'a'), w(4, 0, 'b'), w(3, 1, 'x'), w(0, 63, 'c'), w(5, 2, 'y'), w(31, 2, 'z')}, many(2)
	commits(t, l, first, api.OK, 1)
	commits(t, l, second, api.OK, 2)
	for _, i := range []int{0, 1, 2, 4} {
		for k, s := range sectorsOf(1, first) {
			has(t, b, i, 52+k, s)
		}
		for k, s := range sectorsOf(2, second) {
			has(t, b, i, 4+k, s)
		}
		has(t, b, i, 3, sectorOf(record.Mark{Seq: 1, Sectors: 7}))
		has(t, b, i, 2, sectorOf(record.Mark{Seq: 2, Sectors: 3}))
		for _, at := range []int{0, 1, 7, 51, 59, 99} {
			has(t, b, i, at, full(0))
		}
		if waiting := b.Member(i).Waiting(); len(waiting) != 0 {
			t.Errorf("%v of the member %d wait", waiting, i)
		}
	}
	has(t, b, 0, 163, full('c'))
	has(t, b, 4, 100, full('b'))
	has(t, b, 0, 100, full('A'))
	has(t, b, 1, 101, full('B'))
	b.Member(3).Replace()
	for at := range 164 {
		has(t, b, 3, at, full(0))
	}
}

// TestOrderP15_2: all that is written, step by step: the power fails behind each of them, and just the last step is new.
func TestOrderP15_2(t *testing.T) {
	for _, size := range []int{1, 4, 11, 32} {
		writes := []record.Write{w(size-1, 9, 'a'), w(0, 8, 'b'), w(size/2, 7, 'c'), w(size, 6, 'd')}
		if size == 32 {
			writes = writes[:3]
		}
		for n := 0; ; n++ {
			l, p := New(bay.New(size, 164)), &plain{bay: bay.New(size, 164)}
			l.bay.Cut(n)
			p.bay.Cut(n)
			e := l.Commit(writes)
			if want := p.commit(writes); e != want {
				t.Fatalf("%d steps of %d members: %d, want %d", n, size, e, want)
			}
			alike(t, l, p)
			if e == api.OK {
				break
			}
		}
	}
}

// TestStepsP15_2: how many steps a Commit takes, also to members that have too few sectors.
func TestStepsP15_2(t *testing.T) {
	for _, sectors := range []int{1, 3, 4, 52, 101, 164, 256} {
		for n, need := range map[int]int64{0: 1, 1: 2, 12: 13, 13: 15, 28: 30, 29: 32, 44: 47} {
			b := bay.New(4, sectors)
			commits(t, New(b), many(n), api.OK, 1)
			if want := 4*(need+1) + 4*2 + int64(n) + 4; b.Steps() != want {
				t.Errorf("%d writes to members of %d sectors: %d steps, want %d", n, sectors, b.Steps(), want)
			}
			if c := b.Member(3).Counts(); c.Flushes != 3 || c.Reads != 0 {
				t.Errorf("%d writes to members of %d sectors: %v", n, sectors, c)
			}
		}
	}
}

func TestMostWritesP15_2(t *testing.T) {
	b := bay.New(4, 164)
	l := New(b)
	commits(t, l, many(44), api.OK, 1)
	for i := range 44 {
		has(t, b, i%4, 100+i, full(byte('A'+i)))
	}
	has(t, b, 2, 98, full('A'+43))
	has(t, b, 2, 99, full(0))
	commits(t, l, many(45), api.ErrForm, 1)
	recovers(t, l, true, api.OK, 1, false)
}

func TestWrongWritesP15_2(t *testing.T) {
	for name, writes := range bad() {
		b := bay.New(4, 164)
		l := New(b)
		commits(t, l, many(2), api.OK, 1)
		steps := b.Steps()
		commits(t, l, writes, api.ErrForm, 1)
		if b.Steps() != steps || l.Broken() {
			t.Errorf("%s: %d steps, Broken %v", name, b.Steps()-steps, l.Broken())
		}
		commits(t, l, many(1), api.OK, 2)
	}
}

// TestNumberP15_2: the number grows only behind the marks, and then at once.
func TestNumberP15_2(t *testing.T) {
	// Of four members: 2 sectors and a flush, a mark and a flush, a write, and flushes.
	for n := range 25 {
		b := bay.New(4, 164)
		l := New(b)
		b.Cut(n)
		seq := int64(0)
		if n >= 20 {
			seq = 1
		}
		commits(t, l, many(1), api.ErrPower, seq)
		if !l.Broken() {
			t.Errorf("it isn't broken behind %d steps", n)
		}
		commits(t, l, many(1), api.ErrState, seq)
		if b.Steps() != int64(n) {
			t.Errorf("%d steps, want %d", b.Steps(), n)
		}
	}
	b := bay.New(4, 164)
	b.Cut(25)
	commits(t, New(b), many(1), api.OK, 1)
}

// at is a log whose number is seq, by a mark without a batch.
func at(t *testing.T, b *bay.Bay, seq int64) *Log {
	t.Helper()
	l := New(b)
	b.Member(0).Rot(2, sectorOf(record.Mark{Seq: seq, Sectors: 1}))
	recovers(t, l, false, api.OK, seq, false)
	return l
}

func TestFullP15_2(t *testing.T) {
	b := bay.New(4, 164)
	l := at(t, b, api.MaxSeq-1)
	commits(t, l, many(2), api.OK, api.MaxSeq)
	has(t, b, 3, 2, sectorOf(record.Mark{Seq: api.MaxSeq, Sectors: 3}))
	has(t, b, 1, 101, full('B'))
	steps := b.Steps()
	commits(t, l, many(2), api.ErrFull, api.MaxSeq)
	if b.Steps() != steps || l.Broken() {
		t.Errorf("%d steps, Broken %v", b.Steps()-steps, l.Broken())
	}
	recovers(t, l, true, api.OK, api.MaxSeq, false)
}

// TestErrorsInOrderP15_2: the first one named is told, where several apply.
func TestErrorsInOrderP15_2(t *testing.T) {
	fail := func(b *bay.Bay) {
		for i := range b.Size() {
			b.Member(i).Fail()
		}
	}
	b := bay.New(2, 164)
	l := at(t, b, api.MaxSeq)
	b.Cut(0)
	recovers(t, l, false, api.ErrPower, api.MaxSeq, true)
	fail(b)
	commits(t, l, many(45), api.ErrState, api.MaxSeq)

	b = bay.New(2, 164)
	l = at(t, b, api.MaxSeq)
	fail(b)
	commits(t, l, many(45), api.ErrFull, api.MaxSeq)

	b = bay.New(2, 164)
	l = at(t, b, 7)
	fail(b)
	b.Cut(0)
	commits(t, l, many(45), api.ErrForm, 7)
	commits(t, l, many(1), api.ErrFailed, 7)
	if l.Broken() || b.Steps() != 0 {
		t.Errorf("Broken %v, %d steps, with no member live", l.Broken(), b.Steps())
	}
	b.Member(1).Replace()
	commits(t, l, many(1), api.ErrPower, 7)
}

// TestHandedInP15_2: the writes are neither changed nor kept, and what lies behind them isn't read.
func TestHandedInP15_2(t *testing.T) {
	b := bay.New(4, 164)
	l := New(b)
	all := many(6)
	all[4].Member = -7
	given := slices.Clone(all)
	commits(t, l, all[:3], api.OK, 1)
	if !slices.Equal(all, given) {
		t.Fatalf("%#v became %#v", given, all)
	}
	has(t, b, 3, 103, full(0))
	clear(all)
	recovers(t, l, true, api.OK, 1, false)
	has(t, b, 2, 102, full('C'))
}

// TestNobodyP15_3: with no member live nothing is asked, and nothing changes.
func TestNobodyP15_3(t *testing.T) {
	for _, broken := range []bool{false, true} {
		b := bay.New(3, 164)
		l := at(t, b, 6)
		commits(t, l, nil, api.OK, 7)
		b.Cut(0)
		if broken {
			commits(t, l, nil, api.ErrPower, 7)
		}
		for i := range 3 {
			b.Member(i).Fail()
		}
		recovers(t, l, false, api.ErrFailed, 7, broken)
		b.Crash()
		recovers(t, l, false, api.ErrFailed, 7, broken)
	}
}

// TestNoMarkP15_3: without a mark the number is 0, whatever it was, and nothing is written.
func TestNoMarkP15_3(t *testing.T) {
	b := bay.New(3, 164)
	l := New(b)
	recovers(t, l, false, api.OK, 0, false)
	commits(t, l, many(1), api.OK, 1)
	b.Cut(2)
	commits(t, l, many(1), api.ErrPower, 1)
	b.Crash()
	for i := range 3 {
		b.Member(i).Replace()
	}
	steps := b.Steps()
	recovers(t, l, false, api.OK, 0, false)
	if b.Steps() != steps {
		t.Errorf("%d steps", b.Steps()-steps)
	}
	commits(t, l, many(1), api.OK, 1)
	for _, sector := range []string{full(0), full('M'), "MARK" + full(0)[4:], sectorOf(record.Mark{Seq: 1, Sectors: 1})[:63] + "x"} {
		for i := range 3 {
			b.Member(i).Rot(2, sector)
			b.Member(i).Rot(3, sector)
		}
		recovers(t, l, false, api.OK, 0, false)
	}
}

// TestNoBatchP15_3: a mark of which nobody has the batch gives the number alone, and nothing is written.
func TestNoBatchP15_3(t *testing.T) {
	two := sectorsOf(9, many(1))
	for name, spoil := range map[string]func(b *bay.Bay){
		"none":            func(b *bay.Bay) {},
		"the sum":         func(b *bay.Bay) { b.Member(1).Rot(52, two[0]); b.Member(1).Rot(53, full('?')) },
		"the half":        func(b *bay.Bay) { b.Member(1).Rot(4, two[0]); b.Member(1).Rot(5, two[1]) },
		"another number":  func(b *bay.Bay) { put(b, 1, 52, sectorsOf(7, many(1))) },
		"a greater one":   func(b *bay.Bay) { put(b, 1, 52, sectorsOf(11, many(1))) },
		"fewer sectors":   func(b *bay.Bay) { put(b, 1, 52, sectorsOf(9, nil)) },
		"more sectors":    func(b *bay.Bay) { put(b, 1, 52, sectorsOf(9, many(2))) },
		"of two members":  func(b *bay.Bay) { b.Member(0).Rot(52, two[0]); b.Member(1).Rot(53, two[1]) },
		"of a dead one":   func(b *bay.Bay) { put(b, 2, 52, two); b.Member(2).Fail() },
		"one place aside": func(b *bay.Bay) { put(b, 0, 53, two) },
	} {
		b := bay.New(3, 164)
		l := New(b)
		b.Cut(0)
		commits(t, l, nil, api.ErrPower, 0)
		b.Crash()
		b.Member(0).Rot(3, sectorOf(record.Mark{Seq: 9, Sectors: 2}))
		spoil(b)
		if done, e := l.Recover(); done || e != api.OK || l.Seq() != 9 || l.Broken() || b.Steps() != 0 {
			t.Errorf("%s: %v, %d, Seq %d, Broken %v, %d steps", name, done, e, l.Seq(), l.Broken(), b.Steps())
		}
	}
}

// put lays sectors on a member, lasting.
func put(b *bay.Bay, i, at int, sectors []string) {
	for k, s := range sectors {
		b.Member(i).Rot(at+k, s)
	}
}

// TestOneHasItP15_3: a mark of any one member, in either sector, and its batch of any one: behind it all have the mark, and what the batch says.
func TestOneHasItP15_3(t *testing.T) {
	for seq := int64(5); seq <= 6; seq++ {
		for x := range 4 * 4 * 2 {
			marked, batched, where := x%4, x/4%4, 2+x/16
			b := bay.New(4, 164)
			l := New(b)
			mark, half := places(seq)
			put(b, marked, where, []string{sectorOf(record.Mark{Seq: seq, Sectors: 4})})
			put(b, batched, half, sectorsOf(seq, []record.Write{w(1, 0, 'a'), w(3, 5, 'b'), w(4, 5, 'c')}))
			recovers(t, l, true, api.OK, seq, false)
			for i := range 4 {
				has(t, b, i, mark, sectorOf(record.Mark{Seq: seq, Sectors: 4}))
			}
			has(t, b, 1, 100, full('a'))
			has(t, b, 3, 105, full('b'))
			if want := int64(4*2 + 2 + 4); b.Steps() != want {
				t.Errorf("%d steps, want %d", b.Steps(), want)
			}
			commits(t, l, nil, api.OK, seq+1)
		}
	}
}

// TestFirstWholeP15_3: the first one that has a whole batch of the number is taken, and nobody behind it is asked.
func TestFirstWholeP15_3(t *testing.T) {
	b := bay.New(4, 164)
	b.Member(3).Rot(2, sectorOf(record.Mark{Seq: 4, Sectors: 2}))
	put(b, 0, 4, sectorsOf(2, []record.Write{w(0, 0, 'x')}))
	put(b, 1, 4, sectorsOf(4, []record.Write{w(0, 0, 'a')}))
	put(b, 2, 4, sectorsOf(4, []record.Write{w(0, 0, 'b')}))
	recovers(t, New(b), true, api.OK, 4, false)
	has(t, b, 0, 100, full('a'))
	for i, want := range []int64{5, 4, 2, 2} { // with the read above
		if c := b.Member(i).Counts(); c.Reads != want {
			t.Errorf("the member %d was read %d times, want %d", i, c.Reads, want)
		}
	}
}

// TestNewestP15_3: of several marks the greatest number's is taken, and the first of equal ones.
func TestNewestP15_3(t *testing.T) {
	b := bay.New(4, 164)
	for i, seq := range []int64{3, 8, 7, 6} {
		b.Member(i).Rot(3-i%2, sectorOf(record.Mark{Seq: seq, Sectors: 2}))
	}
	b.Member(2).Rot(2, sectorOf(record.Mark{Seq: 8, Sectors: 3}))
	put(b, 3, 4, sectorsOf(8, []record.Write{w(0, 0, 'a')}))
	put(b, 1, 52, sectorsOf(7, []record.Write{w(0, 0, 'b')}))
	recovers(t, New(b), true, api.OK, 8, false)
	has(t, b, 0, 100, full('a'))
	has(t, b, 2, 2, sectorOf(record.Mark{Seq: 8, Sectors: 2}))
	has(t, b, 2, 3, sectorOf(record.Mark{Seq: 7, Sectors: 2}))
}

// TestShortMembersP15_3: who can't be read in a place is passed over, though what it has ahead of it were a batch of that number.
func TestShortMembersP15_3(t *testing.T) {
	b := bay.New(2, 6)
	put(b, 0, 2, []string{sectorOf(record.Mark{Seq: 4, Sectors: 3})})
	put(b, 0, 4, sectorsOf(4, many(1)))
	recovers(t, New(b), false, api.OK, 4, false)
	if b.Steps() != 0 {
		t.Errorf("%d steps", b.Steps())
	}
	b = bay.New(2, 3)
	put(b, 1, 2, []string{sectorOf(record.Mark{Seq: 4, Sectors: 3})})
	recovers(t, New(b), false, api.OK, 4, false)
	b = bay.New(2, 1)
	recovers(t, New(b), false, api.OK, 0, false)
	b = bay.New(2, 6)
	put(b, 1, 2, []string{sectorOf(record.Mark{Seq: 4, Sectors: 2})})
	put(b, 1, 4, sectorsOf(4, many(1)))
	recovers(t, New(b), true, api.OK, 4, false)
	if b.Steps() != 2*2+1+2 {
		t.Errorf("%d steps", b.Steps())
	}
}

// TestPowerP15_3: without power it is broken, and its number stays; behind the last step all is well.
func TestPowerP15_3(t *testing.T) {
	// Of three live members: a mark and a flush each, a write, and flushes.
	for n := range 11 {
		b := bay.New(4, 164)
		commits(t, New(b), many(1), api.OK, 1)
		b.Member(1).Fail()
		l := at(t, bay.New(1, 164), 12)
		l.bay = b
		b.Cut(n)
		if n == 10 {
			recovers(t, l, true, api.OK, 1, false)
			continue
		}
		recovers(t, l, false, api.ErrPower, 12, true)
		commits(t, l, nil, api.ErrState, 12)
		recovers(t, l, false, api.ErrPower, 12, true)
		b.Crash()
		recovers(t, l, true, api.OK, 1, false)
	}
}

// TestPowerAndNoStepsP15_3: a Recover that writes nothing reads, and needs power for that.
func TestPowerAndNoStepsP15_3(t *testing.T) {
	b := bay.New(2, 164)
	l := New(b)
	b.Cut(0)
	recovers(t, l, false, api.ErrPower, 0, true)
	if c := b.Member(0).Counts(); c.Reads != 0 {
		t.Errorf("%d reads without power", c.Reads)
	}
	b.Cut(1)
	recovers(t, l, false, api.OK, 0, false)
}

// TestReplacedP15_3: a member that was replaced has the mark and what the last batch says of it, behind Recover.
func TestReplacedP15_3(t *testing.T) {
	b := bay.New(4, 164)
	l := New(b)
	commits(t, l, []record.Write{w(1, 0, 'o')}, api.OK, 1)
	b.Member(1).Fail()
	commits(t, l, []record.Write{w(1, 5, 'x'), w(2, 5, 'y')}, api.OK, 2)
	b.Member(1).Replace()
	has(t, b, 1, 105, full(0))
	recovers(t, New(b), true, api.OK, 2, false)
	has(t, b, 1, 105, full('x'))
	has(t, b, 1, 100, full(0))
	has(t, b, 1, 2, sectorOf(record.Mark{Seq: 2, Sectors: 3}))
	has(t, b, 1, 4, full(0))
}

// TestReplacedAndCutP15_3: that is so too if the power fails in a next Commit that comes to no mark.
func TestReplacedAndCutP15_3(t *testing.T) {
	b := bay.New(4, 164)
	l := New(b)
	b.Member(1).Fail()
	commits(t, l, []record.Write{w(1, 5, 'x'), w(2, 5, 'y')}, api.OK, 1)
	b.Member(1).Replace()
	b.Cut(3)
	commits(t, l, []record.Write{w(1, 6, 'z')}, api.ErrPower, 1)
	b.Crash()
	has(t, b, 1, 105, full(0))
	recovers(t, l, true, api.OK, 1, false)
	has(t, b, 1, 105, full('x'))
	has(t, b, 1, 106, full(0))
}

// disks are what all live members have beside marks and the ring: the dead ones' are empty.
func disks(b *bay.Bay) [][]string {
	all := make([][]string, b.Size())
	for i := range all {
		for at := range b.Member(i).Size() {
			if at >= 2 && at < 100 || b.Member(i).Dead() {
				continue
			}
			s, _ := b.Member(i).Read(at)
			all[i] = append(all[i], s)
		}
	}
	return all
}

// after are disks behind a batch.
func after(old [][]string, writes []record.Write) [][]string {
	all := make([][]string, len(old))
	for i := range old {
		all[i] = slices.Clone(old[i])
	}
	for _, x := range writes {
		if x.Member < len(all) && len(all[x.Member]) > 0 {
			all[x.Member][2+x.Stripe] = x.Data
		}
	}
	return all
}

// same: have the live members of a bay what disks say? (Members that died meanwhile don't count.)
func same(b *bay.Bay, want [][]string) bool {
	for i, have := range disks(b) {
		if !b.Member(i).Dead() && !slices.Equal(have, want[i]) {
			return false
		}
	}
	return true
}

// keeps are ways to keep writes that didn't last, of a bay of four.
func keeps(random *rand.Rand) [][][]uint64 {
	const all = ^uint64(0)
	return [][][]uint64{
		nil,
		{{all}, {all}, {all}, {all}},
		{{all}}, {nil, {all}}, {nil, nil, {all}}, {nil, nil, nil, {all}},
		{{1}, {1}, {1}, {1}}, {{2}, {2}, {2}, {2}}, {{all - 1}, {all - 1}, {all - 1}, {all - 1}},
		{{random.Uint64()}, {random.Uint64()}, {random.Uint64()}, {random.Uint64()}},
	}
}

// begin is a bay of four members on which two batches were done, and a batch that changes much of that.
func begin(t *testing.T) (*bay.Bay, *Log, []record.Write) {
	t.Helper()
	b := bay.New(4, 164)
	for i := range 4 {
		b.Member(i).Rot(0, full('l'))
	}
	l := New(b)
	commits(t, l, []record.Write{w(0, 1, 'o'), w(1, 1, 'p'), w(3, 2, 'q')}, api.OK, 1)
	commits(t, l, []record.Write{w(2, 1, 'r'), w(3, 1, 's'), w(3, 2, 't'), w(0, 7, 'u')}, api.OK, 2)
	return b, l, []record.Write{w(0, 1, 'x'), w(3, 2, 'y'), w(0, 1, 'n'), w(1, 1, 'n'), w(2, 9, 'n'), w(3, 2, 'n')}
}

// lawful holds what the members have behind a Recover that is OK against what they may have.
func lawful(t *testing.T, b *bay.Bay, l *Log, old, news [][]string, how string) (isNew bool) {
	t.Helper()
	_, e := l.Recover()
	isOld, isNew := same(b, old), same(b, news)
	if e != api.OK || l.Broken() || !isOld && !isNew {
		t.Fatalf("%s: Recover %d, Broken %v; as ahead of it %v, as behind it %v", how, e, l.Broken(), isOld, isNew)
	}
	if isNew && l.Seq() != 3 || isOld && l.Seq() != 2 {
		t.Fatalf("%s: Seq %d; as ahead of it %v, as behind it %v", how, l.Seq(), isOld, isNew)
	}
	return isNew
}

// TestAnyStepP15_4: the power fails at any step of a Commit, and any of what waits is kept.
func TestAnyStepP15_4(t *testing.T) {
	random := rand.New(rand.NewSource(15))
	olds, news := 0, 0
	for n := 0; ; n++ {
		done := false
		for k, kept := range keeps(random) {
			b, l, writes := begin(t)
			old, new := disks(b), after(disks(b), writes)
			b.Cut(n)
			e := l.Commit(writes)
			b.Crash(kept...)
			done = e == api.OK
			if k%2 == 0 {
				l = New(b)
			}
			isNew := lawful(t, b, l, old, new, fmt.Sprintf("%d steps, %v kept", n, kept))
			if done && !isNew {
				t.Fatalf("%d steps, %v kept: Commit was OK, and isn't done", n, kept)
			}
			if isNew {
				news++
			} else {
				olds++
			}
			// And all goes on from there.
			if e := l.Commit(nil); e != api.OK {
				t.Fatalf("%d steps, %v kept: Commit behind it: %d", n, kept, e)
			}
		}
		if done {
			break
		}
	}
	if olds == 0 || news == 0 {
		t.Errorf("%d were not done, %d were", olds, news)
	}
}

// TestAllKeptP15_4: each set of the writes that wait on one member may be kept.
func TestAllKeptP15_4(t *testing.T) {
	b, l, _ := begin(t)
	writes := []record.Write{w(0, 1, 'n'), w(0, 2, 'n'), w(0, 3, 'n'), w(0, 1, 'm')}
	steps := b.Steps()
	commits(t, l, writes, api.OK, 3)
	last := int(b.Steps() - steps)
	for n := range last {
		for kept := range uint64(1 << 5) {
			b, l, _ := begin(t)
			old, new := disks(b), after(disks(b), writes)
			b.Cut(n)
			l.Commit(writes)
			b.Crash([]uint64{kept}, []uint64{kept}, []uint64{kept}, []uint64{kept})
			lawful(t, b, New(b), old, new, fmt.Sprintf("%d steps, %b kept", n, kept))
		}
	}
}

// TestFurtherOnesP15_4: it fails again, at any step of the Recover, and of one more; what was done once stays.
func TestFurtherOnesP15_4(t *testing.T) {
	random := rand.New(rand.NewSource(154))
	ways := keeps(random)
	keep := func() [][]uint64 {
		return ways[random.Intn(len(ways))]
	}
	for n := range 52 {
		for second := range 20 {
			for range 3 {
				b, l, writes := begin(t)
				old, new := disks(b), after(disks(b), writes)
				b.Cut(n)
				e := l.Commit(writes)
				b.Crash(keep()...)
				b.Cut(second)
				done, f := l.Recover()
				if done && f != api.OK {
					t.Fatalf("Recover: %v, %d", done, f)
				}
				was := f == api.OK && same(b, new)
				b.Crash(keep()...)
				b.Cut(random.Intn(20))
				New(b).Recover()
				b.Crash(keep()...)
				isNew := lawful(t, b, New(b), old, new, fmt.Sprintf("%d steps, then %d", n, second))
				if !isNew && (was || e == api.OK) {
					t.Fatalf("%d steps, then %d: what was done is undone", n, second)
				}
			}
		}
	}
}

// TestMembersDieP15_4: any members die while the power is away, at any step: those left agree.
func TestMembersDieP15_4(t *testing.T) {
	random := rand.New(rand.NewSource(1544))
	ways := keeps(random)
	for n := range 52 {
		for who := range 15 {
			b, l, writes := begin(t)
			old, new := disks(b), after(disks(b), writes)
			b.Cut(n)
			e := l.Commit(writes)
			b.Crash(ways[random.Intn(len(ways))]...)
			for i := range 4 {
				if who>>i&1 == 1 {
					b.Member(i).Fail()
				}
			}
			l = New(b)
			if _, f := l.Recover(); f != api.OK {
				t.Fatalf("Recover: %d", f)
			}
			if isOld, isNew := same(b, old), same(b, new); !isNew && (!isOld || e == api.OK) {
				t.Fatalf("%d steps, %b died: Commit %d; as ahead of it %v, as behind it %v", n, who, e, isOld, isNew)
			}
		}
	}
}

// TestFirstMarkP15_4: from the first mark that lasts on all of it is done, also when two others die.
func TestFirstMarkP15_4(t *testing.T) {
	b, l, writes := begin(t)
	old, new := disks(b), after(disks(b), writes)
	// 1 + 6 sectors and a flush of four members, and the first one's mark and its flush.
	for n, want := range map[int]bool{4 * 8: false, 4*8 + 1: false, 4*8 + 2: true} {
		b, l, writes = begin(t)
		b.Cut(n)
		commits(t, l, writes, api.ErrPower, 2)
		b.Crash()
		b.Member(1).Fail()
		b.Member(3).Fail()
		if isNew := lawful(t, b, New(b), old, new, "two died"); isNew != want {
			t.Errorf("behind %d steps it is done: %v", n, isNew)
		}
	}
}

// TestLongRunP15_4: batches one behind the other, with losses of power between: the members have what the batches say that were done.
func TestLongRunP15_4(t *testing.T) {
	for seed := range int64(40) {
		random := rand.New(rand.NewSource(seed))
		b := bay.New(1+random.Intn(6), 164)
		l := New(b)
		state := disks(b)
		for round := range 60 {
			var writes []record.Write
			for range random.Intn(9) {
				writes = append(writes, w(random.Intn(7), random.Intn(3), byte(random.Intn(256))))
			}
			if random.Intn(10) == 0 {
				writes = many(44)
			}
			if random.Intn(2) == 0 {
				b.Cut(random.Intn(80))
			}
			e, next := l.Commit(writes), after(state, writes)
			for f := e; f != api.OK; _, f = l.Recover() {
				var kept [][]uint64
				for range b.Size() {
					kept = append(kept, []uint64{random.Uint64()})
				}
				b.Crash(kept...)
				if random.Intn(2) == 0 {
					b.Cut(random.Intn(20))
				}
				if random.Intn(2) == 0 {
					l = New(b)
				}
			}
			isOld, isNew := same(b, state), same(b, next)
			if !isNew && (!isOld || e == api.OK) {
				t.Fatalf("seed %d, round %d: Commit %d; as ahead of it %v, as behind it %v", seed, round, e, isOld, isNew)
			}
			if isNew {
				state = next
			}
			b.Crash() // so that power is there; nothing waits
		}
	}
}

// both calls a log and the plain one alike, step by step of a script.
type both struct {
	l      *Log
	p      *plain
	script []byte
}

// next is the script's next number, below end; 0 behind its end.
func (x *both) next(end int) int {
	if len(x.script) == 0 {
		return 0
	}
	n := int(x.script[0]) % end
	x.script = x.script[1:]
	return n
}

// each does something to both bays.
func (x *both) each(do func(b *bay.Bay)) {
	do(x.l.bay)
	do(x.p.bay)
}

// writes are some, of which a few are wrong.
func (x *both) writes() []record.Write {
	all := make([]record.Write, x.next(6))
	for i := range all {
		all[i] = w(x.next(x.l.bay.Size()+2), x.next(3), byte(x.next(256)))
	}
	if x.next(9) == 1 {
		all = many(43 + x.next(3))
	}
	if x.next(17) == 1 && len(all) > 0 {
		all[len(all)-1].Stripe = []int{-1, 63, 64}[x.next(3)]
	}
	return all
}

// rot lays a mark, a batch, or a sector of another member somewhere.
func (x *both) rot() {
	i, kind, seq := x.next(x.l.bay.Size()), x.next(4), int64(1+x.next(5))
	if x.next(8) == 1 {
		seq = api.MaxSeq - seq + 1
	}
	mark, half := places(seq)
	writes, at, byteOf := many(x.next(3)), x.next(256), byte(x.next(256))
	x.each(func(b *bay.Bay) {
		switch kind {
		case 0:
			b.Member(i).Rot(mark, sectorOf(record.Mark{Seq: seq, Sectors: 1 + len(writes)}))
		case 1:
			put(b, i, half, sectorsOf(seq, writes))
		case 2:
			b.Member(i).Rot(at, full(byteOf))
		case 3:
			b.Member(i).Rot(2+at%2, full(byteOf))
		}
	})
}

// call makes the script's next call.
func (x *both) call(t *testing.T) {
	switch x.next(12) {
	case 0, 1, 2:
		writes := x.writes()
		if e, want := x.l.Commit(writes), x.p.commit(writes); e != want {
			t.Fatalf("Commit(%#v): %d, want %d", writes, e, want)
		}
	case 3, 4:
		done, e := x.l.Recover()
		if want, f := x.p.recover(); done != want || e != f {
			t.Fatalf("Recover: %v, %d; want %v, %d", done, e, want, f)
		}
	case 5, 6:
		steps := x.next(90)
		x.each(func(b *bay.Bay) { b.Cut(steps) })
	case 7, 8:
		kept := make([][]uint64, x.next(x.l.bay.Size()+1))
		for i := range kept {
			kept[i] = []uint64{uint64(x.next(256)) * 0x0101010101010101, uint64(x.next(256))}
		}
		x.each(func(b *bay.Bay) { b.Crash(kept...) })
	case 9:
		i := x.next(x.l.bay.Size())
		x.each(func(b *bay.Bay) { b.Member(i).Fail() })
	case 10:
		i := x.next(x.l.bay.Size())
		x.each(func(b *bay.Bay) { b.Member(i).Replace() })
	case 11:
		x.rot()
		if x.next(4) == 1 {
			x.l, x.p = New(x.l.bay), &plain{bay: x.p.bay}
		}
	}
}

// run runs a script: its first two bytes say which bay.
func run(t *testing.T, script []byte) {
	x := &both{script: script}
	size := []int{1, 2, 3, 4, 4, 5, 11, 32}[x.next(8)]
	sectors := []int{1, 2, 3, 4, 5, 6, 50, 52, 53, 54, 99, 100, 101, 102, 164, 164, 164, 256}[x.next(18)]
	x.l, x.p = New(bay.New(size, sectors)), &plain{bay: bay.New(size, sectors)}
	alike(t, x.l, x.p)
	for len(x.script) > 0 {
		x.call(t)
		alike(t, x.l, x.p)
	}
}

// TestScriptsP15_2P15_3: all that a log answers and does, against the plain one.
func TestScriptsP15_2P15_3(t *testing.T) {
	for seed := range int64(150) {
		script := make([]byte, 300)
		rand.New(rand.NewSource(seed)).Read(script)
		run(t, script)
	}
}

func FuzzLog(f *testing.F) {
	f.Add([]byte{3, 14, 0, 2, 0, 0, 97, 1, 0, 98, 0, 0, 5, 40, 0, 1, 3, 7, 0, 3})
	f.Fuzz(func(t *testing.T, script []byte) {
		if len(script) <= 400 {
			run(t, script)
		}
	})
}

// TestApartP2: logs of bays of their own have nothing to do with one another.
func TestApartP2(t *testing.T) {
	a, b := New(bay.New(4, 164)), New(bay.New(4, 164))
	commits(t, a, many(4), api.OK, 1)
	if b.Seq() != 0 || b.bay.Steps() != 0 || !same(b.bay, disks(bay.New(4, 164))) {
		t.Errorf("Seq %d, %d steps of the other one", b.Seq(), b.bay.Steps())
	}
	a.bay.Cut(0)
	commits(t, a, many(4), api.ErrPower, 1)
	if b.Broken() {
		t.Error("the other one is broken")
	}
	commits(t, b, []record.Write{w(0, 0, 'z')}, api.OK, 1)
	a.bay.Crash()
	recovers(t, a, true, api.OK, 1, false)
	has(t, a.bay, 0, 100, full('A'))
	has(t, b.bay, 0, 100, full('z'))
}
