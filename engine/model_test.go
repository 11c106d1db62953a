package engine

import (
	"maps"
	"slices"

	"trunnion/api"
	"trunnion/marks"
	"trunnion/naive"
	"trunnion/plan"
	"trunnion/tally"
)

// waiting is a key of the model's lift.
type waiting struct {
	block, picks int
}

// cell is what the model has of a column that is there; the empty text stands for what isn't known to be old.
type cell struct {
	now, old string
	dirty    bool
}

// model is what the chapter's words, and those of the layers 20 to 24, say of an engine, in the plainest way. What the array does, and how a stripe gets its parities, is asked of these layers themselves.
type model struct {
	a *naive.Array
	o Options

	queue map[int]string
	lift  []waiting // as they were added
	head  int

	plain, dear []int
	cells       map[int]map[int]cell

	run, next, window, end int
}

// fresh is the model of New(a, o), of options that may be.
func fresh(a *naive.Array, o Options) *model {
	return &model{a: a, o: o, queue: map[int]string{}, cells: map[int]map[int]cell{}}
}

// data is how many data columns a stripe has.
func (m *model) data() int {
	return m.a.Label().Members - 2
}

// blocks is how many the array has.
func (m *model) blocks() int {
	return m.data() * m.a.Label().Stripes
}

// without is a row of keys but for one.
func without(row []int, key int) []int {
	return slices.DeleteFunc(row, func(k int) bool { return k == key })
}

// touch is P23.2.
func (m *model) touch(stripe int) {
	m.plain, m.dear = without(m.plain, stripe), without(m.dear, stripe)
	m.dear = append(m.dear, stripe)
	if len(m.dear) > m.o.Dear {
		m.plain, m.dear = append(m.plain, m.dear[0]), m.dear[1:]
	}
}

// dirty are the dirty columns of a stripe.
func (m *model) dirty(stripe int) marks.Set {
	var set marks.Set
	for column, c := range m.cells[stripe] {
		if c.dirty {
			set = set.With(column)
		}
	}
	return set
}

// allDirty are the dirty stripes.
func (m *model) allDirty() []int {
	var all []int
	for _, stripe := range slices.Sorted(maps.Keys(m.cells)) {
		if !m.dirty(stripe).Empty() {
			all = append(all, stripe)
		}
	}
	return all
}

// use is what P24.2 says of Fill and Put alike.
func (m *model) use(stripe int) api.Errno {
	if m.cells[stripe] != nil {
		m.touch(stripe)
		return api.OK
	}
	if len(m.cells) == m.o.Rows {
		going := slices.IndexFunc(slices.Concat(m.plain, m.dear), func(k int) bool { return m.dirty(k).Empty() })
		if going < 0 {
			return api.ErrFull
		}
		victim := slices.Concat(m.plain, m.dear)[going]
		m.plain, m.dear = without(m.plain, victim), without(m.dear, victim)
		delete(m.cells, victim)
	}
	m.plain = append(m.plain, stripe)
	m.cells[stripe] = map[int]cell{}
	return api.OK
}

// fill is layer 24's Fill, of a block.
func (m *model) fill(block int, s string) api.Errno {
	stripe, column := block/m.data(), block%m.data()
	if e := m.use(stripe); e != api.OK {
		return e
	}
	c := m.cells[stripe][column]
	c.old = s
	if !c.dirty {
		c.now = s
	}
	m.cells[stripe][column] = c
	return api.OK
}

// put is layer 24's Put, of a block.
func (m *model) put(block int, s string) api.Errno {
	stripe, column := block/m.data(), block%m.data()
	if e := m.use(stripe); e != api.OK {
		return e
	}
	c := m.cells[stripe][column]
	c.now, c.dirty = s, true
	m.cells[stripe][column] = c
	return api.OK
}

// get is layer 24's Get, of a block.
func (m *model) get(block int) (string, bool) {
	stripe, column := block/m.data(), block%m.data()
	c, ok := m.cells[stripe][column]
	if ok {
		m.touch(stripe)
	}
	return c.now, ok
}

// note is P22.2: the blocks that are told, up to the second one.
func (m *model) note(block int) (int, int) {
	if m.run > 0 && m.next == block {
		m.run++
	} else {
		m.run, m.window, m.end = 1, 0, block+1
	}
	m.next = block + 1
	if m.run < 2 || m.end-m.next > m.window/2 {
		return 0, 0
	}
	m.window = min(max(m.window*2, 2), m.o.Ahead)
	to := m.next + m.window
	for to%m.data() != 0 {
		to++
	}
	from, to := max(m.end, m.next), min(to, m.blocks())
	if from < to {
		m.end = to
	}
	return from, to
}

// refuses is what the chapter says ahead of all promises, and of a block that isn't there.
func (m *model) refuses(block int) api.Errno {
	if m.a.Down() {
		return api.ErrPower
	}
	if block < 0 || block >= m.blocks() {
		return api.ErrRange
	}
	return api.OK
}

// Read is P26.2.
func (m *model) Read(block int) (string, api.Errno) {
	if e := m.refuses(block); e != api.OK {
		return "", e
	}
	s, there := m.queue[block]
	if !there {
		if s, there = m.get(block); there {
			m.a.Tally().Add(tally.Hits, 1)
		} else {
			m.a.Tally().Add(tally.Misses, 1)
			var e api.Errno
			if s, e = m.a.Read(block); e != api.OK {
				return "", e
			}
			m.fill(block, s)
		}
	}
	if m.o.Ahead == 0 {
		return s, api.OK
	}
	for i, to := m.note(block); i < to; i++ {
		if _, waits := m.queue[i]; waits {
			continue
		}
		if _, there := m.get(i); there {
			continue
		}
		other, e := m.a.Read(i)
		if e != api.OK || m.fill(i, other) != api.OK {
			break
		}
		m.a.Tally().Add(tally.Ahead, 1)
	}
	return s, api.OK
}

// Write is P26.3.
func (m *model) Write(block int, data string) api.Errno {
	if e := m.refuses(block); e != api.OK {
		return e
	}
	if len(data) != 64 {
		return api.ErrForm
	}
	_, there := m.queue[block]
	if !there && len(m.queue) == m.o.Queue {
		if _, e := m.Dispatch(); e != api.OK {
			return e
		}
	}
	m.queue[block] = data
	if !there {
		m.lift = append(m.lift, waiting{block: block})
	}
	return api.OK
}

// pick is P21.2; a key waits.
func (m *model) pick() int {
	found := slices.IndexFunc(m.lift, func(w waiting) bool { return w.picks >= m.o.Age })
	if found < 0 {
		// Those from the head on are ahead of all others.
		place := func(block int) int {
			if block < m.head {
				return block + m.blocks()
			}
			return block
		}
		for i, w := range m.lift {
			if found < 0 || place(w.block) < place(m.lift[found].block) {
				found = i
			}
		}
	}
	block := m.lift[found].block
	m.lift = slices.Delete(m.lift, found, found+1)
	m.head = block + 1
	for i := range m.lift {
		m.lift[i].picks++
	}
	return block
}

// Dispatch is P26.4.
func (m *model) Dispatch() (int, api.Errno) {
	if m.a.Down() {
		return 0, api.ErrPower
	}
	if len(m.queue) == 0 {
		return 0, api.ErrNone
	}
	block := m.pick()
	if m.put(block, m.queue[block]) == api.ErrFull {
		if _, e := m.Settle(); e != api.OK {
			m.lift = append(m.lift, waiting{block: block})
			return 0, e
		}
		m.put(block, m.queue[block])
	}
	delete(m.queue, block)
	return block, api.OK
}

// make is what the chapter's words say of how a stripe is made.
func (m *model) make(stripe int) (naive.Change, plan.Kind, api.Errno) {
	s := plan.State{Data: m.data(), Dirty: m.dirty(stripe)}
	now, old, read := plan.Columns{}, plan.Columns{}, plan.Columns{}
	for column, c := range m.cells[stripe] {
		s.Have, now[column] = s.Have.With(column), c.now
		if c.old != "" {
			s.Known, old[column] = s.Known.With(column), c.old
		}
	}
	lost, e := m.a.Lost(stripe)
	if e == api.OK && len(lost) > 2 {
		e = api.ErrFailed
	}
	if e != api.OK {
		return naive.Change{}, 0, e
	}
	s.Lost = marks.Of(lost...)
	p, e := plan.Choose(s)
	if e != api.OK {
		return naive.Change{}, 0, e
	}
	for column := range m.data() + 2 {
		if !p.Reads.Has(column) {
			continue
		}
		if read[column], e = m.a.Column(stripe, column); e != api.OK {
			return naive.Change{}, 0, e
		}
	}
	m.touch(stripe)
	columns, e := plan.Make(s, p, now, old, read)
	return naive.Change{Stripe: stripe, Columns: columns}, p.Kind, e
}

// Settle is P26.5.
func (m *model) Settle() (int, api.Errno) {
	if m.a.Down() {
		return 0, api.ErrPower
	}
	var changes []naive.Change
	var kinds []plan.Kind
	columns := 0
	for _, stripe := range m.allDirty() {
		c, kind, e := m.make(stripe)
		if e == api.ErrPower {
			return 0, e
		}
		if e != api.OK {
			continue
		}
		if columns += len(c.Columns); columns > 44 {
			break
		}
		changes, kinds = append(changes, c), append(kinds, kind)
	}
	if len(changes) == 0 && len(m.allDirty()) > 0 {
		return 0, api.ErrFailed
	}
	if len(changes) == 0 {
		return 0, api.OK
	}
	if e := m.a.Store(changes); e != api.OK {
		return 0, e
	}
	for i, c := range changes {
		for column, held := range m.cells[c.Stripe] {
			m.cells[c.Stripe][column] = cell{now: held.now, old: held.now}
		}
		if kinds[i] == plan.Small {
			m.a.Tally().Add(tally.Small, 1)
		}
		if kinds[i] == plan.Great {
			m.a.Tally().Add(tally.Great, 1)
		}
	}
	return len(changes), api.OK
}

// Flush is P26.6.
func (m *model) Flush() api.Errno {
	if m.a.Down() {
		return api.ErrPower
	}
	for len(m.queue) > 0 {
		if _, e := m.Dispatch(); e != api.OK {
			return e
		}
	}
	for len(m.allDirty()) > 0 {
		if _, e := m.Settle(); e != api.OK {
			return e
		}
	}
	return api.OK
}

// Pending is P26.6.
func (m *model) Pending() (int, int) {
	columns := 0
	for _, stripe := range m.allDirty() {
		columns += m.dirty(stripe).Count()
	}
	return len(m.queue), columns
}
