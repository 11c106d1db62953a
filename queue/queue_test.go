package queue

import (
	"fmt"
	"math"
	"math/rand"
	"slices"
	"strings"
	"testing"

	"trunnion/api"
	"trunnion/spans"
)

// ints are numbers of all sizes: those about the edges of blocks and of how many a queue takes, and the least and greatest ones.
var ints = []int{math.MinInt, math.MinInt + 1, -1 << 40, -1 << 32, -256, -2, -1, 0, 1, 2, 3, 63, 64, 65, 255, 256, 257, 1 << 16, 1 << 32, 1<<40 - 2, 1<<40 - 1, 1 << 40, 1<<40 + 1, math.MaxInt - 1, math.MaxInt}

// full is a block's bytes, all of them alike.
func full(c byte) string {
	return strings.Repeat(string([]byte{c}), 64)
}

// of is an item whose bytes are all alike.
func of(block int, c byte, age int64) Item {
	return Item{Block: block, Data: full(c), Age: age}
}

// puts holds what a Put answers.
func puts(t *testing.T, q *Queue, block int, data string, want api.Errno) {
	t.Helper()
	if e := q.Put(block, data); e != want {
		t.Errorf("Put(%d) of %d bytes: %d, want %d", block, len(data), e, want)
	}
}

// model is what the chapter's words say of a queue, in the plainest way: its items in the order in which they came.
type model struct {
	most  int
	clock int64
	items []Item
}

// at is where in the model the item of a block stands; -1, if there is none.
func (m *model) at(block int) int {
	for i, x := range m.items {
		if x.Block == block {
			return i
		}
	}
	return -1
}

// put is P20.1's sentence on Put.
func (m *model) put(block int, data string) api.Errno {
	if block < 0 || block > 1099511627776-1 {
		return api.ErrRange
	}
	if len(data) != 64 {
		return api.ErrForm
	}
	if i := m.at(block); i >= 0 {
		m.items[i].Data = data
	} else if len(m.items) == m.most {
		return api.ErrFull
	} else {
		m.items = append(m.items, Item{block, data, m.clock})
	}
	m.clock++
	return api.OK
}

// take is P20.2's sentence on Take.
func (m *model) take(block int) (Item, bool) {
	i := m.at(block)
	if i < 0 {
		return Item{}, false
	}
	x := m.items[i]
	m.items = append(slices.Clone(m.items[:i]), m.items[i+1:]...)
	return x, true
}

// rising are the model's items by their blocks.
func (m *model) rising() []Item {
	l := slices.Clone(m.items)
	slices.SortFunc(l, func(a, b Item) int { return a.Block - b.Block })
	return l
}

// places is the list of places of the model's blocks.
func (m *model) places() spans.List {
	var l spans.List
	for _, x := range m.rising() {
		if n := len(l); n > 0 && l[n-1].To == x.Block {
			l[n-1].To++
		} else {
			l = append(l, spans.Span{From: x.Block, To: x.Block + 1})
		}
	}
	return l
}

// oldest is the model's item with the least age.
func (m *model) oldest() (Item, bool) {
	if len(m.items) == 0 {
		return Item{}, false
	}
	least := m.items[0]
	for _, x := range m.items {
		if x.Age < least.Age {
			least = x
		}
	}
	return least, true
}

// same holds all that a queue tells, but for its blocks asked one by one.
func same(t *testing.T, what string, q *Queue, m *model) {
	t.Helper()
	if q.Len() != len(m.items) || q.Full() != (len(m.items) == m.most) || q.Clock() != m.clock {
		t.Fatalf("%s: Len %d, Full %t, Clock %d; want %d of %d, %d", what, q.Len(), q.Full(), q.Clock(), len(m.items), m.most, m.clock)
	}
	if got, want := q.Items(), m.rising(); !slices.Equal(got, want) {
		t.Fatalf("%s: Items %v, want %v", what, got, want)
	}
	if got, want := q.Spans(), m.places(); !slices.Equal(got, want) || !got.Good() {
		t.Fatalf("%s: Spans %v, want %v", what, got, want)
	}
	got, ok := q.Oldest()
	if want, there := m.oldest(); got != want || ok != there {
		t.Fatalf("%s: Oldest %v, %t; want %v, %t", what, got, ok, want, there)
	}
}

func TestExampleP20_1(t *testing.T) {
	q := New(2)
	puts(t, q, 5, full('a'), api.OK)
	puts(t, q, 7, full('b'), api.OK)
	puts(t, q, 5, full('c'), api.OK)
	puts(t, q, 6, full('d'), api.ErrFull)
	if got, want := q.Items(), []Item{of(5, 'c', 0), of(7, 'b', 1)}; !slices.Equal(got, want) {
		t.Errorf("Items are %v, want %v", got, want)
	}
	if q.Clock() != 3 {
		t.Errorf("Clock is %d, want 3", q.Clock())
	}
}

func TestHowManyItTakesP20_1(t *testing.T) {
	for _, most := range append([]int{4, 5, 100, 128, 254}, ints...) {
		want := most
		if most < 1 {
			want = 1
		} else if most > 256 {
			want = 256
		}
		q := New(most)
		if q == nil {
			t.Fatalf("New(%d) is nil", most)
		}
		same(t, fmt.Sprintf("New(%d)", most), q, &model{most: want})
		for i := range want {
			if q.Full() {
				t.Fatalf("New(%d) is full with %d", most, i)
			}
			puts(t, q, 3*i, full('x'), api.OK)
		}
		if !q.Full() || q.Len() != want {
			t.Errorf("New(%d) isn't full with %d", most, q.Len())
		}
		for _, block := range []int{1, 3*want - 1, 3 * want, 1<<40 - 1} {
			puts(t, q, block, full('y'), api.ErrFull)
		}
		if q.Len() != want || q.Clock() != int64(want) {
			t.Errorf("New(%d): Len %d, Clock %d behind what was refused", most, q.Len(), q.Clock())
		}
	}
}

func TestWhichBlocksP20_1(t *testing.T) {
	for _, block := range ints {
		q, m := New(3), &model{most: 3}
		want := api.OK
		if block < 0 || block >= api.MaxAt {
			want = api.ErrRange
		}
		puts(t, q, block, full('x'), want)
		m.put(block, full('x'))
		same(t, fmt.Sprintf("Put(%d)", block), q, m)
		if _, ok := q.Get(block); ok != (want == api.OK) {
			t.Errorf("Get(%d) is %t", block, ok)
		}
	}
}

func TestWhichDataP20_1(t *testing.T) {
	every := make([]byte, 64)
	for i := range every {
		every[i] = byte(4*i + 1)
	}
	for _, data := range []string{full(0), full(255), string(every), strings.Repeat("é", 32), full('\n')} {
		q := New(1)
		puts(t, q, 9, data, api.OK)
		if got, ok := q.Get(9); got != data || !ok {
			t.Errorf("Get is %q, %t; want %q", got, ok, data)
		}
	}
	q := New(1)
	for _, size := range []int{0, 1, 32, 63, 65, 127, 128, 256, 1 << 16, 1 << 20} {
		puts(t, q, 9, strings.Repeat("x", size), api.ErrForm)
	}
	// 64 runes are not 64 bytes.
	puts(t, q, 9, strings.Repeat("é", 64), api.ErrForm)
	same(t, "behind what was refused", q, &model{most: 1})
}

// TestOrderOfErrorsP20_1: ErrRange ahead of ErrForm, and both of them ahead of what a full queue says.
func TestOrderOfErrorsP20_1(t *testing.T) {
	for _, filled := range []bool{false, true} {
		q := New(1)
		if filled {
			puts(t, q, 4, full('a'), api.OK)
		}
		for _, block := range []int{math.MinInt, -1, api.MaxAt, math.MaxInt} {
			puts(t, q, block, full('x'), api.ErrRange)
			puts(t, q, block, "x", api.ErrRange)
			puts(t, q, block, "", api.ErrRange)
		}
		for _, block := range []int{0, 4, api.MaxAt - 1} {
			puts(t, q, block, "x", api.ErrForm)
		}
	}
}

func TestLaterWriteKeepsTheAgeP20_1(t *testing.T) {
	q := New(2)
	puts(t, q, 8, full('a'), api.OK)
	puts(t, q, 3, full('b'), api.OK)
	for i := range 50 {
		// A full queue takes it too.
		puts(t, q, 8, full(byte(i)), api.OK)
		if got, want := q.Items(), []Item{of(3, 'b', 1), of(8, byte(i), 0)}; !slices.Equal(got, want) {
			t.Fatalf("Items are %v, want %v", got, want)
		}
		if q.Clock() != int64(i+3) {
			t.Fatalf("Clock is %d, want %d", q.Clock(), i+3)
		}
	}
	// The same data again is a write as well.
	puts(t, q, 3, full('b'), api.OK)
	if q.Clock() != 53 {
		t.Errorf("Clock is %d, want 53", q.Clock())
	}
}

// TestBlockThatComesAgainP20_1: one that was taken out has the age of when it came in again.
func TestBlockThatComesAgainP20_1(t *testing.T) {
	q := New(2)
	puts(t, q, 8, full('a'), api.OK)
	puts(t, q, 3, full('b'), api.OK)
	q.Take(8)
	puts(t, q, 8, full('c'), api.OK)
	if got, want := q.Items(), []Item{of(3, 'b', 1), of(8, 'c', 2)}; !slices.Equal(got, want) {
		t.Errorf("Items are %v, want %v", got, want)
	}
}

func TestRefusedPutLeavesAllP20_1(t *testing.T) {
	q, m := New(2), &model{most: 2}
	for _, x := range []struct {
		block int
		data  string
	}{{5, full('a')}, {7, full('b')}} {
		puts(t, q, x.block, x.data, api.OK)
		m.put(x.block, x.data)
	}
	for _, x := range []struct {
		block int
		data  string
		e     api.Errno
	}{{6, full('c'), api.ErrFull}, {5, "c", api.ErrForm}, {7, "", api.ErrForm}, {-1, full('c'), api.ErrRange}, {api.MaxAt, full('c'), api.ErrRange}} {
		puts(t, q, x.block, x.data, x.e)
		same(t, fmt.Sprintf("behind Put(%d)", x.block), q, m)
	}
}

func TestGetP20_2(t *testing.T) {
	q := New(4)
	for _, block := range ints {
		if s, ok := q.Get(block); s != "" || ok {
			t.Errorf("Get(%d) of an empty queue is %q, %t", block, s, ok)
		}
	}
	puts(t, q, 0, full('a'), api.OK)
	puts(t, q, api.MaxAt-1, full('b'), api.OK)
	puts(t, q, 64, full('c'), api.OK)
	for range 2 { // it stays there
		for _, block := range ints {
			want, there := map[int]string{0: full('a'), api.MaxAt - 1: full('b'), 64: full('c')}[block]
			if s, ok := q.Get(block); s != want || ok != there {
				t.Errorf("Get(%d) is %q, %t; want %q, %t", block, s, ok, want, there)
			}
		}
	}
	if q.Len() != 3 || q.Clock() != 3 {
		t.Errorf("Get changed the queue: Len %d, Clock %d", q.Len(), q.Clock())
	}
}

func TestTakeP20_2(t *testing.T) {
	q := New(3)
	for _, block := range ints {
		if x, ok := q.Take(block); x != (Item{}) || ok {
			t.Errorf("Take(%d) of an empty queue is %v, %t", block, x, ok)
		}
	}
	for i, block := range []int{20, 10, 30} {
		puts(t, q, block, full('a'+byte(i)), api.OK)
	}
	for _, block := range []int{math.MinInt, -1, 0, 9, 11, 21, 29, 31, api.MaxAt, math.MaxInt} {
		if x, ok := q.Take(block); x != (Item{}) || ok || q.Len() != 3 {
			t.Errorf("Take(%d) is %v, %t", block, x, ok)
		}
	}
	if x, ok := q.Take(10); x != of(10, 'b', 1) || !ok {
		t.Errorf("Take(10) is %v, %t", x, ok)
	}
	if x, ok := q.Take(10); x != (Item{}) || ok {
		t.Errorf("Take(10) is %v, %t again", x, ok)
	}
	if s, ok := q.Get(10); s != "" || ok {
		t.Errorf("Get(10) is %q, %t behind Take", s, ok)
	}
	same(t, "behind Take", q, &model{most: 3, clock: 3, items: []Item{of(20, 'a', 0), of(30, 'c', 2)}})
	puts(t, q, 15, full('d'), api.OK)
	same(t, "in its place", q, &model{most: 3, clock: 4, items: []Item{of(20, 'a', 0), of(30, 'c', 2), of(15, 'd', 3)}})
}

func TestTakeLeavesNothingBehindP20_2(t *testing.T) {
	q := New(8)
	for i := range 8 {
		puts(t, q, i, full('x'), api.OK)
	}
	for i := range 8 {
		q.Take((5 * i) % 8)
	}
	for _, x := range q.items[:cap(q.items)] {
		if x != (Item{}) {
			t.Errorf("%v is kept", x)
		}
	}
	same(t, "behind all Takes", q, &model{most: 8, clock: 8})
}

func TestSpansP20_3(t *testing.T) {
	for _, x := range []struct {
		blocks []int
		want   spans.List
	}{
		{nil, nil},
		{[]int{0}, spans.List{{From: 0, To: 1}}},
		{[]int{7, 5, 6}, spans.List{{From: 5, To: 8}}},
		{[]int{7, 5}, spans.List{{From: 5, To: 6}, {From: 7, To: 8}}},
		{[]int{9, 0, 4, 1, 8, 3}, spans.List{{From: 0, To: 2}, {From: 3, To: 5}, {From: 8, To: 10}}},
		{[]int{api.MaxAt - 1, 0}, spans.List{{From: 0, To: 1}, {From: api.MaxAt - 1, To: api.MaxAt}}},
		{[]int{api.MaxAt - 1, api.MaxAt - 2}, spans.List{{From: api.MaxAt - 2, To: api.MaxAt}}},
	} {
		q := New(256)
		for _, block := range x.blocks {
			puts(t, q, block, full('x'), api.OK)
		}
		if got := q.Spans(); !slices.Equal(got, x.want) {
			t.Errorf("Spans of %v are %v, want %v", x.blocks, got, x.want)
		}
	}
}

func TestOldestP20_3(t *testing.T) {
	q := New(3)
	oldest := func(want Item, there bool) {
		t.Helper()
		if x, ok := q.Oldest(); x != want || ok != there {
			t.Errorf("Oldest is %v, %t; want %v, %t", x, ok, want, there)
		}
	}
	oldest(Item{}, false)
	puts(t, q, 9, full('a'), api.OK)
	puts(t, q, 1, full('b'), api.OK)
	puts(t, q, 5, full('c'), api.OK)
	oldest(of(9, 'a', 0), true)
	puts(t, q, 9, full('d'), api.OK)
	oldest(of(9, 'd', 0), true) // a later write doesn't make it younger
	q.Take(9)
	oldest(of(1, 'b', 1), true)
	puts(t, q, 9, full('e'), api.OK)
	q.Take(1)
	oldest(of(5, 'c', 2), true)
	q.Take(5)
	oldest(of(9, 'e', 4), true)
	q.Take(9)
	oldest(Item{}, false)
}

func TestFullOfAllOrdersP20_3(t *testing.T) {
	// Each step is odd, so that all 256 places are gone through.
	for _, step := range []int{1, 3, 77, 129, 255} {
		q, m := New(256), &model{most: 256}
		for i := range 256 {
			block := i * step % 256 * 2
			puts(t, q, block, full(byte(i)), api.OK)
			m.put(block, full(byte(i)))
		}
		same(t, fmt.Sprintf("step %d", step), q, m)
	}
}

func TestScriptsP20(t *testing.T) {
	for seed := range int64(60) {
		r := rand.New(rand.NewSource(seed))
		most := []int{1, 2, 3, 8, 40, 256}[seed%6]
		wide := 2*most + 2
		first := []int{0, 1000, api.MaxAt - wide + 1}[seed%3]
		q, m := New(most), &model{most: most}
		for i := range 600 {
			block := first + r.Intn(wide)
			what := fmt.Sprintf("seed %d, call %d, block %d", seed, i, block)
			switch r.Intn(5) {
			case 0, 1:
				data := full(byte(r.Intn(256)))[r.Intn(20)/19:]
				if e, want := q.Put(block, data), m.put(block, data); e != want {
					t.Fatalf("%s: Put is %d, want %d", what, e, want)
				}
			case 2:
				x, ok := q.Take(block)
				if want, there := m.take(block); x != want || ok != there {
					t.Fatalf("%s: Take is %v, %t; want %v, %t", what, x, ok, want, there)
				}
			case 3:
				if x, ok := q.Oldest(); ok && r.Intn(3) == 0 {
					q.Take(x.Block)
					m.take(x.Block)
				}
			default:
				s, ok := q.Get(block)
				if at := m.at(block); ok != (at >= 0) || ok && s != m.items[at].Data || !ok && s != "" {
					t.Fatalf("%s: Get is %q, %t", what, s, ok)
				}
			}
			same(t, what, q, m)
		}
	}
}

func TestNilQueueP1(t *testing.T) {
	var q *Queue
	for _, block := range ints {
		for _, data := range []string{"", "x", full('x'), strings.Repeat("x", 65)} {
			puts(t, q, block, data, api.ErrNil)
		}
		if s, ok := q.Get(block); s != "" || ok {
			t.Errorf("Get(%d) is %q, %t", block, s, ok)
		}
		if x, ok := q.Take(block); x != (Item{}) || ok {
			t.Errorf("Take(%d) is %v, %t", block, x, ok)
		}
	}
	if x, ok := q.Oldest(); x != (Item{}) || ok {
		t.Errorf("Oldest is %v, %t", x, ok)
	}
	if q.Len() != 0 || q.Clock() != 0 || len(q.Items()) != 0 || len(q.Spans()) != 0 {
		t.Errorf("Len %d, Clock %d, Items %v, Spans %v", q.Len(), q.Clock(), q.Items(), q.Spans())
	}
	if !q.Full() {
		t.Error("a nil queue isn't full")
	}
}

func TestQueuesAreApartP2(t *testing.T) {
	a, b := New(2), New(2)
	puts(t, a, 1, full('a'), api.OK)
	puts(t, a, 2, full('b'), api.OK)
	same(t, "the other one", b, &model{most: 2})
	puts(t, b, 2, full('c'), api.OK)
	b.Take(2)
	same(t, "the first one", a, &model{most: 2, clock: 2, items: []Item{of(1, 'a', 0), of(2, 'b', 1)}})
}

// TestAnswersAreNewMemoryP20_3: neither a change of what was told nor one of the queue is seen in the other.
func TestAnswersAreNewMemoryP20_3(t *testing.T) {
	q, m := New(4), &model{most: 4}
	for i, block := range []int{5, 7, 6} {
		puts(t, q, block, full('a'+byte(i)), api.OK)
		m.put(block, full('a'+byte(i)))
	}
	items, again, list := q.Items(), q.Items(), q.Spans()
	for _, l := range [][]Item{items, items[:cap(items)]} {
		for i := range l {
			l[i] = of(99, 'z', 99)
		}
	}
	for _, l := range []spans.List{list, list[:cap(list)]} {
		for i := range l {
			l[i] = spans.Span{From: 77, To: 78}
		}
	}
	same(t, "behind changes of what was told", q, m)
	puts(t, q, 8, full('d'), api.OK)
	puts(t, q, 5, full('e'), api.OK)
	q.Take(6)
	if want := m.rising(); !slices.Equal(again, want) {
		t.Errorf("what was told changed: %v, want %v", again, want)
	}
}
