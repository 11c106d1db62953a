package turn

import (
	"fmt"
	"math"
	"math/rand"
	"slices"
	"testing"

	"trunnion/api"
)

// ints are numbers of all sizes: those about the edges of mosts and of dears, and the least and greatest ones.
var ints = []int{math.MinInt, math.MinInt + 1, -1 << 40, -1 << 32, -64, -2, -1, 0, 1, 2, 3, 4, 31, 32, 33, 62, 63, 64, 65, 66, 255, 256, 1 << 16, 1 << 32, 1 << 40, math.MaxInt - 1, math.MaxInt}

// made is a turn that may be.
func made(t *testing.T, most, dear int) *Turn {
	t.Helper()
	x, e := New(most, dear)
	if x == nil || e != api.OK {
		t.Fatalf("New(%d, %d) is %v, %d", most, dear, x, e)
	}
	return x
}

// filled is a turn to which keys were added, one after the other.
func filled(t *testing.T, most, dear int, keys ...int) *Turn {
	t.Helper()
	x := made(t, most, dear)
	for _, key := range keys {
		adds(t, x, key, api.OK)
	}
	return x
}

// adds holds what an Add answers.
func adds(t *testing.T, x *Turn, key int, want api.Errno) {
	t.Helper()
	if e := x.Add(key); e != want {
		t.Errorf("Add(%d): %d, want %d", key, e, want)
	}
}

// touches touches keys that are there, one after the other.
func touches(t *testing.T, x *Turn, keys ...int) {
	t.Helper()
	for _, key := range keys {
		if !x.Touch(key) {
			t.Errorf("Touch(%d) is false", key)
		}
	}
}

// pins pins keys that are there, or frees them.
func pins(t *testing.T, x *Turn, on bool, keys ...int) {
	t.Helper()
	for _, key := range keys {
		if !x.Pin(key, on) {
			t.Errorf("Pin(%d, %t) is false", key, on)
		}
	}
}

// rows holds both rows, by all that a turn tells of them.
func rows(t *testing.T, x *Turn, plain, dear []int) {
	t.Helper()
	all := append(slices.Clone(plain), dear...)
	if got := x.Order(); !slices.Equal(got, all) {
		t.Errorf("Order is %v, want %v", got, all)
	}
	if n, d := x.Len(); n != len(all) || d != len(dear) {
		t.Errorf("Len is %d, %d; want %d, %d", n, d, len(all), len(dear))
	}
	for i, key := range all {
		if there, isDear := x.Has(key); !there || isDear != (i >= len(plain)) {
			t.Errorf("Has(%d) is %t, %t", key, there, isDear)
		}
	}
}

// goes are the keys that aren't pinned, in the order in which they go: each victim is pinned, till there is none, and all are freed then.
func goes(x *Turn) []int {
	var keys []int
	for key, ok := x.Victim(); ok; key, ok = x.Victim() {
		if slices.Contains(keys, key) || !x.Pin(key, true) {
			return append(keys, key)
		}
		keys = append(keys, key)
	}
	for _, key := range keys {
		x.Pin(key, false)
	}
	return keys
}

// victims holds which keys go, one after the other; no others do.
func victims(t *testing.T, x *Turn, want ...int) {
	t.Helper()
	first, ok := x.Victim()
	if ok != (len(want) > 0) || ok && first != want[0] || !ok && first != 0 {
		t.Errorf("Victim is %d, %t; want the first one of %v", first, ok, want)
	}
	if got := goes(x); !slices.Equal(got, want) {
		t.Errorf("%v go, want %v", got, want)
	}
}

// entry is what the model keeps of a key: when it came to its row or was used last in it, which row that is, and if it is pinned.
type entry struct {
	when         int
	dear, pinned bool
}

// model is what the chapter's words say of a turn, in the plainest way.
type model struct {
	most, dear, clock int
	keys              map[int]entry
}

// fresh is the model of New(most, dear).
func fresh(most, dear int) *model {
	return &model{most: most, dear: dear, keys: map[int]entry{}}
}

// comes: a key comes to a row, or is used in it.
func (m *model) comes(key int, dear, pinned bool) {
	m.clock++
	m.keys[key] = entry{when: m.clock, dear: dear, pinned: pinned}
}

// row is one of both, in order.
func (m *model) row(dear bool) []int {
	var l []int
	for key, x := range m.keys {
		if x.dear == dear {
			l = append(l, key)
		}
	}
	slices.SortFunc(l, func(a, b int) int { return m.keys[a].when - m.keys[b].when })
	return l
}

// order is P23.4's sentence on Order.
func (m *model) order() []int {
	return append(m.row(false), m.row(true)...)
}

// add is P23.1's sentence on Add.
func (m *model) add(key int) api.Errno {
	if _, ok := m.keys[key]; ok {
		return api.ErrNone
	}
	if len(m.keys) == m.most {
		return api.ErrFull
	}
	m.comes(key, false, false)
	return api.OK
}

// touch is P23.2, sentence by sentence.
func (m *model) touch(key int) bool {
	x, ok := m.keys[key]
	if !ok {
		return false
	}
	if x.dear {
		m.comes(key, true, x.pinned)
		return true
	}
	if m.dear == 0 {
		m.comes(key, false, x.pinned)
		return true
	}
	m.comes(key, true, x.pinned)
	if l := m.row(true); len(l) > m.dear {
		m.comes(l[0], false, m.keys[l[0]].pinned)
	}
	return true
}

// pin is P23.3's sentence on Pin.
func (m *model) pin(key int, on bool) bool {
	x, ok := m.keys[key]
	if ok {
		x.pinned = on
		m.keys[key] = x
	}
	return ok
}

// goes are the keys that aren't pinned, in the order in which P23.3's sentence on Victim has them go.
func (m *model) goes() []int {
	var l []int
	for _, key := range m.order() {
		if !m.keys[key].pinned {
			l = append(l, key)
		}
	}
	return l
}

// victim is P23.3's sentence on Victim.
func (m *model) victim() (int, bool) {
	for _, key := range m.goes() {
		return key, true
	}
	return 0, false
}

// drop is P23.3's sentence on Drop.
func (m *model) drop(key int) bool {
	_, ok := m.keys[key]
	delete(m.keys, key)
	return ok
}

// choices is in how many ways a key may be asked of.
const choices = 5

// step makes one call of a turn and of its model, and tells what is wrong, if anything is.
func step(x *Turn, m *model, choice, key int) string {
	var what string
	var got, want any
	switch choice {
	case 0:
		what, got, want = "Add", x.Add(key), m.add(key)
	case 1:
		what, got, want = "Touch", x.Touch(key), m.touch(key)
	case 2:
		what, got, want = "Pin on", x.Pin(key, true), m.pin(key, true)
	case 3:
		what, got, want = "Pin off", x.Pin(key, false), m.pin(key, false)
	default:
		what, got, want = "Drop", x.Drop(key), m.drop(key)
	}
	if got != want {
		return fmt.Sprintf("%s of %d is %v, want %v", what, key, got, want)
	}
	return ""
}

// differ tells what of a turn isn't as its model has it, by all calls that change nothing.
func differ(x *Turn, m *model, keys ...int) string {
	if got, want := x.Order(), m.order(); !slices.Equal(got, want) {
		return fmt.Sprintf("Order is %v, want %v", got, want)
	}
	if n, d := x.Len(); n != len(m.keys) || d != len(m.row(true)) {
		return fmt.Sprintf("Len is %d, %d; want %d, %d", n, d, len(m.keys), len(m.row(true)))
	}
	if x.Full() != (len(m.keys) == m.most) {
		return fmt.Sprintf("Full is %t at %d of %d", x.Full(), len(m.keys), m.most)
	}
	key, ok := x.Victim()
	if want, there := m.victim(); key != want || ok != there {
		return fmt.Sprintf("Victim is %d, %t; want %d, %t", key, ok, want, there)
	}
	for _, key := range keys {
		there, dear := x.Has(key)
		if want, ok := m.keys[key]; there != ok || dear != want.dear {
			return fmt.Sprintf("Has(%d) is %t, %t; want %t, %t", key, there, dear, ok, want.dear)
		}
	}
	return ""
}

func TestExampleP23_2(t *testing.T) {
	x := filled(t, 4, 2, 1, 2, 3)
	touches(t, x, 1)
	rows(t, x, []int{2, 3}, []int{1})
	touches(t, x, 2, 3)
	rows(t, x, []int{1}, []int{2, 3})
}

func TestWhatMayBeP23_1(t *testing.T) {
	for _, most := range ints {
		for _, dear := range ints {
			x, e := New(most, dear)
			if most >= 1 && most <= 64 && dear >= 0 && dear <= most-1 {
				if x == nil || e != api.OK {
					t.Fatalf("New(%d, %d) is %v, %d", most, dear, x, e)
				}
				if wrong := differ(x, fresh(most, dear), ints...); wrong != "" {
					t.Fatalf("New(%d, %d): %s", most, dear, wrong)
				}
			} else if x != nil || e != api.ErrArg {
				t.Fatalf("New(%d, %d) is %v, %d; want ErrArg", most, dear, x, e)
			}
		}
	}
}

// TestSizesP23_1: of each size that may be, as many keys as are said are taken, and as many as are said become dear.
func TestSizesP23_1(t *testing.T) {
	for most := 1; most <= 64; most++ {
		for dear := range most {
			x, m := made(t, most, dear), fresh(most, dear)
			for i := range most {
				if x.Full() {
					t.Fatalf("New(%d, %d) is full at %d", most, dear, i)
				}
				adds(t, x, -i, api.OK)
				m.add(-i)
			}
			adds(t, x, 1, api.ErrFull)
			for i := range most {
				touches(t, x, -i)
				m.touch(-i)
				if _, d := x.Len(); d != min(i+1, dear) {
					t.Fatalf("New(%d, %d): %d are dear behind %d Touches", most, dear, d, i+1)
				}
			}
			if wrong := differ(x, m); wrong != "" {
				t.Fatalf("New(%d, %d): %s", most, dear, wrong)
			}
		}
	}
}

// TestWhichKeysP23_1: every number may be a key.
func TestWhichKeysP23_1(t *testing.T) {
	x, m := made(t, 64, 5), fresh(64, 5)
	for _, key := range ints {
		adds(t, x, key, api.OK)
		m.add(key)
		adds(t, x, key, api.ErrNone)
		if wrong := differ(x, m, ints...); wrong != "" {
			t.Fatalf("behind Add(%d): %s", key, wrong)
		}
	}
	for _, key := range ints {
		for choice := range choices {
			if wrong := step(x, m, choice, key); wrong != "" {
				t.Fatal(wrong)
			}
			if wrong := differ(x, m, ints...); wrong != "" {
				t.Fatalf("choice %d of %d: %s", choice, key, wrong)
			}
		}
	}
}

// TestOrderOfErrorsP23_1: of a full turn a key that is there, plain or dear, is ErrNone.
func TestOrderOfErrorsP23_1(t *testing.T) {
	x := filled(t, 3, 1, 7, 8, 9)
	touches(t, x, 8)
	pins(t, x, true, 9)
	for range 2 {
		for _, key := range []int{7, 8, 9} {
			adds(t, x, key, api.ErrNone)
		}
		for _, key := range []int{math.MinInt, -1, 0, 6, 10, math.MaxInt} {
			adds(t, x, key, api.ErrFull)
		}
	}
	rows(t, x, []int{7, 9}, []int{8})
	victims(t, x, 7, 8)
}

// TestRefusedAddLeavesAllP23_1: a key that is there keeps its row, its place in it, and its pin.
func TestRefusedAddLeavesAllP23_1(t *testing.T) {
	x := filled(t, 9, 2, 1, 2, 3, 4)
	touches(t, x, 3, 4)
	pins(t, x, true, 1, 4)
	for _, key := range []int{1, 3, 4, 2, 1} {
		adds(t, x, key, api.ErrNone)
		rows(t, x, []int{1, 2}, []int{3, 4})
		victims(t, x, 2, 3)
	}
}

// TestAddedIsLastOfPlainP23_1: ahead of the dear ones, also if it was dear before.
func TestAddedIsLastOfPlainP23_1(t *testing.T) {
	x := filled(t, 5, 2, 1, 2, 3)
	touches(t, x, 1, 2)
	adds(t, x, 4, api.OK)
	rows(t, x, []int{3, 4}, []int{1, 2})
	x.Drop(1)
	adds(t, x, 1, api.OK)
	rows(t, x, []int{3, 4, 1}, []int{2})
}

// TestAddedIsNotPinnedP23_1: neither by a Pin of a key that was dropped, plain or dear, nor by one ahead of its Add.
func TestAddedIsNotPinnedP23_1(t *testing.T) {
	x := made(t, 4, 2)
	if x.Pin(1, true) || x.Pin(2, true) {
		t.Error("a key is pinned that isn't there")
	}
	for _, key := range []int{1, 2} {
		adds(t, x, key, api.OK)
	}
	victims(t, x, 1, 2)
	touches(t, x, 2)
	pins(t, x, true, 1, 2)
	victims(t, x)
	if !x.Drop(1) || !x.Drop(2) || x.Pin(2, true) {
		t.Error("pinned keys aren't dropped")
	}
	for _, key := range []int{2, 1} {
		adds(t, x, key, api.OK)
	}
	victims(t, x, 2, 1)
}

// TestFullTakesAgainP23_1: a place is free again behind each Drop, and by nothing else.
func TestFullTakesAgainP23_1(t *testing.T) {
	for _, dear := range []int{0, 1, 32, 63} {
		x := made(t, 64, dear)
		for i := range 64 {
			adds(t, x, i, api.OK)
		}
		for i := range 200 {
			key, ok := x.Victim()
			if !ok || !x.Full() {
				t.Fatalf("dear %d, key %d: Victim is %d, %t", dear, i, key, ok)
			}
			adds(t, x, 64+i, api.ErrFull)
			if !x.Drop(key) || x.Full() {
				t.Fatalf("dear %d, key %d: there is no place behind Drop(%d)", dear, i, key)
			}
			adds(t, x, 64+i, api.OK)
			touches(t, x, 64+i)
		}
	}
}

func TestTouchOfNoneP23_2(t *testing.T) {
	x, m := filled(t, 4, 2, 1, 2, 3), fresh(4, 2)
	for _, key := range []int{1, 2, 3} {
		m.add(key)
	}
	touches(t, x, 2)
	m.touch(2)
	for _, key := range []int{math.MinInt, -1, 0, 4, math.MaxInt} {
		if x.Touch(key) {
			t.Errorf("Touch(%d) is true", key)
		}
		if wrong := differ(x, m, ints...); wrong != "" {
			t.Errorf("behind Touch(%d): %s", key, wrong)
		}
	}
	x.Drop(2)
	if x.Touch(2) {
		t.Error("Touch of a key that was dropped is true")
	}
	rows(t, x, []int{1, 3}, nil)
}

// TestTouchOfDearP23_2: the first, one between, and the last of the dear ones; none of them becomes plain.
func TestTouchOfDearP23_2(t *testing.T) {
	x := filled(t, 6, 4, 1, 2, 3, 4, 5, 6)
	touches(t, x, 1, 2, 3, 4)
	rows(t, x, []int{5, 6}, []int{1, 2, 3, 4})
	touches(t, x, 1)
	rows(t, x, []int{5, 6}, []int{2, 3, 4, 1})
	touches(t, x, 3)
	rows(t, x, []int{5, 6}, []int{2, 4, 1, 3})
	touches(t, x, 3)
	rows(t, x, []int{5, 6}, []int{2, 4, 1, 3})
}

// TestFirstDearBecomesPlainP23_2: the one that was used the longest ago, not the one that came first.
func TestFirstDearBecomesPlainP23_2(t *testing.T) {
	x := filled(t, 6, 2, 1, 2, 3, 4, 5)
	touches(t, x, 1, 2, 1)
	rows(t, x, []int{3, 4, 5}, []int{2, 1})
	touches(t, x, 4)
	rows(t, x, []int{3, 5, 2}, []int{1, 4})
	touches(t, x, 2)
	rows(t, x, []int{3, 5, 1}, []int{4, 2})
	x.Drop(4)
	touches(t, x, 5)
	rows(t, x, []int{3, 1}, []int{2, 5})
}

// TestOneDearP23_2: each plain key takes the place of the dear one.
func TestOneDearP23_2(t *testing.T) {
	x := filled(t, 3, 1, 1, 2, 3)
	touches(t, x, 2)
	rows(t, x, []int{1, 3}, []int{2})
	touches(t, x, 2)
	rows(t, x, []int{1, 3}, []int{2})
	touches(t, x, 3)
	rows(t, x, []int{1, 2}, []int{3})
}

// TestNoneDearP23_2: with dear 0 the key is the last of the plain ones.
func TestNoneDearP23_2(t *testing.T) {
	x := filled(t, 3, 0, 1, 2, 3)
	touches(t, x, 1)
	rows(t, x, []int{2, 3, 1}, nil)
	touches(t, x, 1)
	rows(t, x, []int{2, 3, 1}, nil)
	touches(t, x, 3)
	rows(t, x, []int{2, 1, 3}, nil)
	pins(t, x, true, 2)
	touches(t, x, 2)
	victims(t, x, 1, 3)
	y := filled(t, 1, 0, -5)
	touches(t, y, -5)
	rows(t, y, []int{-5}, nil)
}

// TestPinStaysP23_3: in whichever row the key is then, also as it becomes dear, is used there, and becomes plain again.
func TestPinStaysP23_3(t *testing.T) {
	x := filled(t, 5, 1, 1, 2, 3)
	pins(t, x, true, 1)
	touches(t, x, 1)
	victims(t, x, 2, 3)
	touches(t, x, 1)
	victims(t, x, 2, 3)
	touches(t, x, 2)
	rows(t, x, []int{3, 1}, []int{2})
	victims(t, x, 3, 2)
	pins(t, x, false, 1)
	victims(t, x, 3, 1, 2)
	rows(t, x, []int{3, 1}, []int{2})
}

// TestPinTwiceP23_3: a key is pinned or isn't; how often it was doesn't matter.
func TestPinTwiceP23_3(t *testing.T) {
	x := filled(t, 3, 1, 1, 2)
	pins(t, x, true, 1, 1, 1)
	victims(t, x, 2)
	pins(t, x, false, 1)
	victims(t, x, 1, 2)
	pins(t, x, false, 1, 1)
	pins(t, x, true, 1)
	victims(t, x, 2)
}

func TestPinOfNoneP23_3(t *testing.T) {
	x := filled(t, 3, 1, 1, 2)
	for _, key := range []int{math.MinInt, -1, 0, 3, math.MaxInt} {
		if x.Pin(key, true) || x.Pin(key, false) {
			t.Errorf("Pin(%d) is true", key)
		}
	}
	rows(t, x, []int{1, 2}, nil)
	victims(t, x, 1, 2)
}

// TestVictimP23_3: plain ones ahead of dear ones, each row in order, and none that is pinned.
func TestVictimP23_3(t *testing.T) {
	x := made(t, 5, 2)
	victims(t, x)
	for _, key := range []int{9, -3, 0, 7} {
		adds(t, x, key, api.OK)
	}
	touches(t, x, 9, -3)
	for range 3 {
		// It stays there.
		victims(t, x, 0, 7, 9, -3)
		rows(t, x, []int{0, 7}, []int{9, -3})
	}
	pins(t, x, true, 0)
	victims(t, x, 7, 9, -3)
	pins(t, x, true, 9)
	victims(t, x, 7, -3)
	pins(t, x, true, 7)
	victims(t, x, -3)
	pins(t, x, true, -3)
	victims(t, x)
	rows(t, x, []int{0, 7}, []int{9, -3})
	pins(t, x, false, 9, 0)
	victims(t, x, 0, 9)
}

func TestDropP23_3(t *testing.T) {
	x, m := filled(t, 6, 3, 1, 2, 3, 4, 5, 6), fresh(6, 3)
	for key := 1; key <= 6; key++ {
		m.add(key)
	}
	for _, key := range []int{2, 4, 6} {
		touches(t, x, key)
		m.touch(key)
	}
	pins(t, x, true, 1, 6)
	m.pin(1, true)
	m.pin(6, true)
	for _, key := range []int{math.MinInt, -1, 0, 7, math.MaxInt} {
		if x.Drop(key) {
			t.Errorf("Drop(%d) is true", key)
		}
	}
	for _, key := range []int{4, 3, 6, 1, 5, 2} {
		if !x.Drop(key) || x.Drop(key) {
			t.Errorf("Drop(%d) isn't true once", key)
		}
		m.drop(key)
		if wrong := differ(x, m, ints...); wrong != "" {
			t.Errorf("behind Drop(%d): %s", key, wrong)
		}
	}
	victims(t, x)
}

func TestOrderIsNewMemoryP23_4(t *testing.T) {
	x := filled(t, 6, 3, 1, 2, 3, 4, 5)
	touches(t, x, 2, 4, 5)
	told, again := x.Order(), x.Order()
	told = told[:cap(told)]
	for i := range told {
		told[i] = 99
	}
	rows(t, x, []int{1, 3}, []int{2, 4, 5})
	adds(t, x, 6, api.OK)
	touches(t, x, 1)
	x.Drop(5)
	if !slices.Equal(again, []int{1, 3, 2, 4, 5}) {
		t.Errorf("what was told changed: %v", again)
	}
	rows(t, x, []int{3, 6, 2}, []int{4, 1})
}

// TestOrderOfOneRowIsNewMemoryP23_4: also where the other row is empty.
func TestOrderOfOneRowIsNewMemoryP23_4(t *testing.T) {
	for _, keys := range [][]int{nil, {1, 2}} {
		x := filled(t, 3, 2, 1, 2)
		touches(t, x, keys...)
		told := x.Order()
		told[0], told[1] = 8, 9
		if got := x.Order(); !slices.Equal(got, []int{1, 2}) {
			t.Errorf("Order is %v behind a change of what was told", got)
		}
	}
}

// TestAllScriptsP23: all scripts of four steps of three keys, of all turns for at most three of them.
func TestAllScriptsP23(t *testing.T) {
	const steps, keys = 4, 3
	scripts := 1
	for range steps {
		scripts *= choices * keys
	}
	for _, size := range [][2]int{{1, 0}, {2, 0}, {2, 1}, {3, 0}, {3, 1}, {3, 2}} {
		for script := range scripts {
			x, m := made(t, size[0], size[1]), fresh(size[0], size[1])
			// One of them is there already, so that four steps lead further.
			x.Add(0)
			m.add(0)
			left := script
			for i := range steps {
				wrong := step(x, m, left%choices, left/choices%keys)
				left /= choices * keys
				if wrong == "" {
					wrong = differ(x, m, 0, 1, 2)
				}
				if wrong != "" {
					t.Fatalf("New(%d, %d), script %d, step %d: %s", size[0], size[1], script, i, wrong)
				}
			}
			if got, want := goes(x), m.goes(); !slices.Equal(got, want) {
				t.Fatalf("New(%d, %d), script %d: %v go, want %v", size[0], size[1], script, got, want)
			}
		}
	}
}

// TestLongScriptsP23: by chance, against the model.
func TestLongScriptsP23(t *testing.T) {
	for seed := range int64(80) {
		r := rand.New(rand.NewSource(seed))
		most := []int{1, 2, 3, 5, 17, 63, 64}[seed%7]
		dear := r.Intn(most)
		wide := most + 1 + r.Intn(most)
		x, m := made(t, most, dear), fresh(most, dear)
		for i := range 800 {
			// Adds and Touches come more often, so that turns are full at times.
			choice, key := []int{0, 0, 0, 1, 1, 2, 3, 4}[r.Intn(8)], r.Intn(wide)-wide/2
			wrong := step(x, m, choice, key)
			if wrong == "" {
				wrong = differ(x, m, key, r.Intn(wide)-wide/2)
			}
			if wrong != "" {
				t.Fatalf("seed %d, call %d: %s", seed, i, wrong)
			}
			if i%7 != 0 {
				continue
			}
			if got, want := goes(x), m.goes(); !slices.Equal(got, want) {
				t.Fatalf("seed %d, call %d: %v go, want %v", seed, i, got, want)
			}
		}
	}
}

func TestNilTurnP1(t *testing.T) {
	var x *Turn
	for _, key := range ints {
		adds(t, x, key, api.ErrNil)
		if x.Touch(key) || x.Pin(key, true) || x.Pin(key, false) || x.Drop(key) {
			t.Errorf("something was done to %d", key)
		}
		if there, dear := x.Has(key); there || dear {
			t.Errorf("Has(%d) is %t, %t", key, there, dear)
		}
	}
	if key, ok := x.Victim(); key != 0 || ok {
		t.Errorf("Victim is %d, %t", key, ok)
	}
	if n, d := x.Len(); n != 0 || d != 0 || len(x.Order()) != 0 {
		t.Errorf("Len is %d, %d, Order %v", n, d, x.Order())
	}
	if !x.Full() {
		t.Error("Full is false")
	}
}

func TestTurnsAreApartP2(t *testing.T) {
	a, b := filled(t, 3, 1, 1, 2), filled(t, 3, 1, 1, 2, 3)
	touches(t, b, 1)
	pins(t, b, true, 2)
	b.Drop(3)
	rows(t, a, []int{1, 2}, nil)
	victims(t, a, 1, 2)
	pins(t, a, true, 1)
	touches(t, a, 2)
	rows(t, b, []int{2}, []int{1})
	victims(t, b, 1)
}
