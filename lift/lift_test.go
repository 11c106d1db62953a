package lift

import (
	"fmt"
	"math"
	"math/rand"
	"slices"
	"testing"

	"trunnion/api"
)

// ints are numbers of all sizes: those about the edges of keys, of ages and of how many may wait, and the least and greatest ones.
var ints = []int{math.MinInt, math.MinInt + 1, -1 << 40, -1 << 32, -256, -2, -1, 0, 1, 2, 3, 63, 64, 255, 256, 257, 1<<16 - 1, 1 << 16, 1<<16 + 1, 1 << 32, 1<<40 - 2, 1<<40 - 1, 1 << 40, 1<<40 + 1, math.MaxInt - 1, math.MaxInt}

// entry is what the model keeps of a key that waits: its place in the order of all Adds, and its number.
type entry struct {
	added, number int
}

// model is what the chapter's words say of a lift, in the plainest way.
type model struct {
	age, head, adds int
	keys            map[int]entry
}

// fresh is the model of New(age).
func fresh(age int) *model {
	if age < 1 {
		age = 1
	}
	if age > 65536 {
		age = 65536
	}
	return &model{age: age, keys: map[int]entry{}}
}

// add is P21.1's sentence on Add.
func (m *model) add(key int) api.Errno {
	if key < 0 || key > 1099511627776-1 {
		return api.ErrRange
	}
	if _, ok := m.keys[key]; ok {
		return api.ErrNone
	}
	if len(m.keys) == 256 {
		return api.ErrFull
	}
	m.keys[key] = entry{added: m.adds}
	m.adds++
	return api.OK
}

// rising is P21.3's sentence on Keys.
func (m *model) rising() []int {
	var l []int
	for key := range m.keys {
		l = append(l, key)
	}
	slices.Sort(l)
	return l
}

// turn is the first half of P21.2's sentence on Pick: whose turn it is.
func (m *model) turn() (int, bool) {
	late := -1
	for _, key := range m.rising() {
		if m.keys[key].number >= m.age && (late < 0 || m.keys[key].added < m.keys[late].added) {
			late = key
		}
	}
	if late >= 0 {
		return late, true
	}
	for _, key := range m.rising() {
		if key >= m.head {
			return key, true
		}
	}
	for _, key := range m.rising() {
		return key, true
	}
	return 0, false
}

// pick is P21.2's sentence on Pick.
func (m *model) pick() (int, bool) {
	key, ok := m.turn()
	if !ok {
		return 0, false
	}
	delete(m.keys, key)
	m.head = key + 1
	for k, x := range m.keys {
		m.keys[k] = entry{x.added, x.number + 1}
	}
	return key, true
}

// drop is P21.3's sentence on Drop.
func (m *model) drop(key int) bool {
	_, ok := m.keys[key]
	delete(m.keys, key)
	return ok
}

// same holds all that a lift tells against the model.
func same(t *testing.T, what string, l *Lift, m *model) {
	t.Helper()
	if got, want := l.Keys(), m.rising(); !slices.Equal(got, want) {
		t.Fatalf("%s: Keys are %v, want %v", what, got, want)
	}
	if l.Len() != len(m.keys) || l.Head() != m.head {
		t.Fatalf("%s: Len %d, Head %d; want %d, %d", what, l.Len(), l.Head(), len(m.keys), m.head)
	}
	for key, x := range m.keys {
		if n, ok := l.Waited(key); n != x.number || !ok {
			t.Fatalf("%s: Waited(%d) is %d, %t; want %d, true", what, key, n, ok, x.number)
		}
	}
}

// adds holds what an Add answers.
func adds(t *testing.T, l *Lift, key int, want api.Errno) {
	t.Helper()
	if e := l.Add(key); e != want {
		t.Errorf("Add(%d): %d, want %d", key, e, want)
	}
}

// picks holds which keys are served, one after the other, and the head behind each.
func picks(t *testing.T, l *Lift, want ...int) {
	t.Helper()
	for i, w := range want {
		if key, ok := l.Pick(); key != w || !ok || l.Head() != w+1 {
			t.Errorf("Pick %d is %d, %t, and the Head %d; want %d", i, key, ok, l.Head(), w)
		}
	}
}

// holds tells if a key has waited so many Picks.
func holds(t *testing.T, l *Lift, key, want int) {
	t.Helper()
	if n, ok := l.Waited(key); n != want || !ok {
		t.Errorf("Waited(%d) is %d, %t; want %d, true", key, n, ok, want)
	}
}

// none holds that a lift in which no key waits picks nothing, and keeps its head.
func none(t *testing.T, l *Lift) {
	t.Helper()
	head := l.Head()
	if key, ok := l.Pick(); key != 0 || ok || l.Head() != head {
		t.Errorf("Pick is %d, %t, and the Head %d; want 0, false, %d", key, ok, l.Head(), head)
	}
	if l.Len() != 0 || len(l.Keys()) != 0 {
		t.Errorf("Len %d, Keys %v; want none", l.Len(), l.Keys())
	}
}

func TestExampleP21_2(t *testing.T) {
	l := New(10)
	for _, key := range []int{5, 2, 9} {
		adds(t, l, key, api.OK)
	}
	picks(t, l, 2)
	adds(t, l, 1, api.OK)
	picks(t, l, 5, 9, 1)
	none(t, l)
}

func TestNewHasNoKeysP21_1(t *testing.T) {
	for _, age := range ints {
		l := New(age)
		if l == nil {
			t.Fatalf("New(%d) is nil", age)
		}
		same(t, fmt.Sprintf("New(%d)", age), l, fresh(age))
		none(t, l)
	}
}

// TestAgesP21_1: the key 0 is behind the head, and keys ahead of it go first, till it is late: behind so many Picks as the age is.
func TestAgesP21_1(t *testing.T) {
	for _, x := range []struct{ age, want int }{
		{math.MinInt, 1}, {-7, 1}, {-1, 1}, {0, 1}, {1, 1}, {2, 2}, {3, 3}, {255, 255}, {256, 256}, {257, 257},
		{1<<16 - 1, 1<<16 - 1}, {1 << 16, 1 << 16}, {1<<16 + 1, 1 << 16}, {1 << 40, 1 << 16}, {math.MaxInt, 1 << 16},
	} {
		l := New(x.age)
		l.Add(6)
		l.Pick()
		adds(t, l, 0, api.OK)
		for i := range x.want {
			l.Add(7 + i)
			if key, ok := l.Pick(); key != 7+i || !ok {
				t.Fatalf("New(%d): Pick %d is %d, %t", x.age, i, key, ok)
			}
		}
		l.Add(7 + x.want)
		holds(t, l, 0, x.want)
		picks(t, l, 0)
		holds(t, l, 7+x.want, 1)
	}
}

func TestWhichKeysP21_1(t *testing.T) {
	for _, key := range ints {
		l, m := New(3), fresh(3)
		want := api.OK
		if key < 0 || key >= api.MaxAt {
			want = api.ErrRange
		}
		adds(t, l, key, want)
		m.add(key)
		same(t, fmt.Sprintf("Add(%d)", key), l, m)
		if n, ok := l.Waited(key); n != 0 || ok != (want == api.OK) {
			t.Errorf("Waited(%d) is %d, %t", key, n, ok)
		}
	}
}

// TestOrderOfErrorsP21_1: ErrRange ahead of ErrNone, and both of them ahead of what a full lift says.
func TestOrderOfErrorsP21_1(t *testing.T) {
	l, m := New(4), fresh(4)
	for i := range 256 {
		if e := l.Add(2 * i); e != api.OK {
			t.Fatalf("Add %d is %d", i, e)
		}
		m.add(2 * i)
		adds(t, l, 2*i, api.ErrNone)
		adds(t, l, -1, api.ErrRange)
	}
	for _, key := range []int{math.MinInt, -2, -1, api.MaxAt, api.MaxAt + 1, math.MaxInt} {
		adds(t, l, key, api.ErrRange)
	}
	for _, key := range []int{0, 2, 256, 510} {
		adds(t, l, key, api.ErrNone)
	}
	for _, key := range []int{1, 255, 509, 511, 512, api.MaxAt - 1} {
		adds(t, l, key, api.ErrFull)
	}
	same(t, "behind what was refused", l, m)
}

// TestFullTakesAgainP21_1: a place is free again behind each Pick and each Drop, whatever the age is.
func TestFullTakesAgainP21_1(t *testing.T) {
	for _, age := range []int{1, 256, 65536} {
		l := New(age)
		for i := range 256 {
			adds(t, l, i, api.OK)
		}
		adds(t, l, 256, api.ErrFull)
		l.Pick()
		adds(t, l, 256, api.OK)
		adds(t, l, 257, api.ErrFull)
		l.Drop(100)
		adds(t, l, 257, api.OK)
		adds(t, l, 100, api.ErrFull)
		if l.Len() != 256 {
			t.Errorf("Len is %d", l.Len())
		}
	}
}

// TestRefusedAddLeavesAllP21_1: a key that waits already keeps its number and its place in the order of Adds.
func TestRefusedAddLeavesAllP21_1(t *testing.T) {
	l := New(2)
	for _, key := range []int{9, 8, 1} {
		adds(t, l, key, api.OK)
	}
	picks(t, l, 1)
	adds(t, l, 2, api.OK)
	picks(t, l, 2)
	adds(t, l, 9, api.ErrNone)
	adds(t, l, -1, api.ErrRange)
	adds(t, l, api.MaxAt, api.ErrRange)
	holds(t, l, 9, 2)
	holds(t, l, 8, 2)
	picks(t, l, 9, 8)
	none(t, l)
}

// TestLateAddedFirstP21_2: of late keys the one that was added first goes, be it the least, the greatest or one between.
func TestLateAddedFirstP21_2(t *testing.T) {
	for _, order := range [][]int{{11, 12, 13}, {11, 13, 12}, {12, 11, 13}, {12, 13, 11}, {13, 11, 12}, {13, 12, 11}} {
		l := New(2)
		for _, key := range order {
			adds(t, l, key, api.OK)
		}
		adds(t, l, 0, api.OK)
		adds(t, l, 1, api.OK)
		picks(t, l, 0, 1)
		picks(t, l, order...)
		none(t, l)
	}
}

// TestLateOnesAloneP21_2: late keys go ahead of those that are not, also of lesser keys and of those at the head; one Pick short of its age a key isn't late.
func TestLateOnesAloneP21_2(t *testing.T) {
	l := New(2)
	adds(t, l, 20, api.OK)
	adds(t, l, 1, api.OK)
	picks(t, l, 1)
	adds(t, l, 3, api.OK)
	adds(t, l, 2, api.OK)
	holds(t, l, 20, 1)
	picks(t, l, 2)
	holds(t, l, 20, 2)
	holds(t, l, 3, 1)
	picks(t, l, 20) // 3 is at the head, but not late
	holds(t, l, 3, 2)
	adds(t, l, 21, api.OK)
	picks(t, l, 3)
	holds(t, l, 21, 1)
	picks(t, l, 21)
	none(t, l)
}

// TestHeadP21_2: the key at the head is from the head on, the one below it is not.
func TestHeadP21_2(t *testing.T) {
	l := New(100)
	if l.Head() != 0 {
		t.Errorf("the Head is %d at first", l.Head())
	}
	adds(t, l, 6, api.OK)
	picks(t, l, 6)
	adds(t, l, 6, api.OK)
	adds(t, l, 0, api.OK)
	adds(t, l, 9, api.OK)
	adds(t, l, 7, api.OK)
	picks(t, l, 7, 9, 0, 6)
	none(t, l)
	if l.Head() != 7 {
		t.Errorf("the Head is %d, want 7", l.Head())
	}
}

func TestGreatestKeyP21_2(t *testing.T) {
	l := New(100)
	for _, key := range []int{api.MaxAt - 1, api.MaxAt - 2, 5} {
		adds(t, l, key, api.OK)
	}
	picks(t, l, 5, api.MaxAt-2, api.MaxAt-1)
	if l.Head() != api.MaxAt {
		t.Errorf("the Head is %d, want %d", l.Head(), api.MaxAt)
	}
	none(t, l)
	adds(t, l, api.MaxAt-1, api.OK)
	adds(t, l, 0, api.OK)
	picks(t, l, 0, api.MaxAt-1)
}

// TestKeyThatComesAgainP21_2: one that was picked or dropped waits anew, from 0 on, behind all that were added meanwhile.
func TestKeyThatComesAgainP21_2(t *testing.T) {
	l := New(2)
	for _, key := range []int{30, 20, 1, 2} {
		adds(t, l, key, api.OK)
	}
	picks(t, l, 1)
	if !l.Drop(30) {
		t.Error("30 didn't wait")
	}
	adds(t, l, 30, api.OK)
	adds(t, l, 1, api.OK)
	holds(t, l, 30, 0)
	holds(t, l, 1, 0)
	holds(t, l, 20, 1)
	picks(t, l, 2, 20)
	holds(t, l, 30, 2)
	holds(t, l, 1, 2)
	picks(t, l, 30, 1)
	none(t, l)
}

func TestDropP21_3(t *testing.T) {
	l, m := New(3), fresh(3)
	for _, key := range ints {
		if l.Drop(key) {
			t.Errorf("Drop(%d) of a lift without keys is true", key)
		}
	}
	for _, key := range []int{20, 10, 30, api.MaxAt - 1, 0} {
		adds(t, l, key, api.OK)
		m.add(key)
	}
	picks(t, l, 0)
	m.pick()
	for _, key := range []int{math.MinInt, -1, 0, 9, 11, 19, 21, 31, api.MaxAt - 2, api.MaxAt, math.MaxInt} {
		if l.Drop(key) {
			t.Errorf("Drop(%d) is true", key)
		}
	}
	same(t, "behind Drops of none", l, m)
	for _, key := range []int{10, api.MaxAt - 1, 20, 30} {
		if !l.Drop(key) || l.Drop(key) {
			t.Errorf("Drop(%d) isn't true once", key)
		}
		m.drop(key)
		if n, ok := l.Waited(key); n != 0 || ok {
			t.Errorf("Waited(%d) is %d, %t behind its Drop", key, n, ok)
		}
		// Neither the head nor the others' numbers are changed by it.
		same(t, fmt.Sprintf("behind Drop(%d)", key), l, m)
	}
	none(t, l)
}

// TestDropOfTheFirstLateP21_3: the next one in the order of Adds goes then.
func TestDropOfTheFirstLateP21_3(t *testing.T) {
	l := New(1)
	for _, key := range []int{0, 9, 4, 7} {
		adds(t, l, key, api.OK)
	}
	picks(t, l, 0)
	l.Drop(9)
	picks(t, l, 4, 7)
	none(t, l)
}

func TestWaitedP21_3(t *testing.T) {
	l := New(100)
	for _, key := range ints {
		if n, ok := l.Waited(key); n != 0 || ok {
			t.Errorf("Waited(%d) of a lift without keys is %d, %t", key, n, ok)
		}
	}
	for i := range 20 {
		adds(t, l, 1000-i, api.OK)
		adds(t, l, i, api.OK)
		picks(t, l, i)
		for k := range i + 1 {
			holds(t, l, 1000-k, i+1-k)
		}
		for _, key := range []int{math.MinInt, -1, i, 1000 - i - 1, 1001, math.MaxInt} {
			if n, ok := l.Waited(key); n != 0 || ok {
				t.Errorf("Waited(%d) is %d, %t", key, n, ok)
			}
		}
	}
}

func TestKeysOfAllOrdersP21_3(t *testing.T) {
	// Each step is odd, so that all 256 places are gone through.
	for _, step := range []int{1, 3, 77, 129, 255} {
		l, m := New(9), fresh(9)
		for i := range 256 {
			key := i * step % 256 * 2
			adds(t, l, key, api.OK)
			m.add(key)
		}
		same(t, fmt.Sprintf("step %d", step), l, m)
		for i := range 256 {
			got, ok := l.Pick()
			if want, _ := m.pick(); got != want || !ok {
				t.Fatalf("step %d: Pick %d is %d, %t; want %d", step, i, got, ok, want)
			}
		}
		none(t, l)
	}
}

func TestKeysAreNewMemoryP21_3(t *testing.T) {
	l, m := New(4), fresh(4)
	for _, key := range []int{5, 7, 6} {
		adds(t, l, key, api.OK)
		m.add(key)
	}
	told, again := l.Keys(), l.Keys()
	told = told[:cap(told)]
	for i := range told {
		told[i] = 99
	}
	same(t, "behind a change of what was told", l, m)
	l.Add(1)
	l.Pick()
	l.Drop(6)
	if !slices.Equal(again, []int{5, 6, 7}) {
		t.Errorf("what was told changed: %v", again)
	}
}

// watch holds P21.4 for all keys that wait: at the latest at which Pick, counted from the first one of the lift on, each is served.
type watch struct {
	made   int
	latest map[int]int
}

// added notes a key that was added when so many others waited.
func (w *watch) added(key, age, waiting int) {
	w.latest[key] = w.made + age + waiting + 1
}

// picked tells if the key that was served, and all that still wait, keep what is promised.
func (w *watch) picked(key int) bool {
	w.made++
	good := w.made <= w.latest[key]
	delete(w.latest, key)
	for _, latest := range w.latest {
		good = good && latest > w.made
	}
	return good
}

// step is one of seven: a key from 0 to 4 is added, the key 3 is dropped, or neither.
func (w *watch) step(l *Lift, age, choice int) {
	waiting := l.Len()
	if choice < 5 && l.Add(choice) == api.OK {
		w.added(choice, age, waiting)
	}
	if choice == 5 && l.Drop(3) {
		delete(w.latest, 3)
	}
}

// TestNoneWaitsLongerP21_4: all scripts of six steps, behind each of which a key is picked, and then the keys that are left.
func TestNoneWaitsLongerP21_4(t *testing.T) {
	const steps, choices = 6, 7
	scripts := 1
	for range steps {
		scripts *= choices
	}
	for age := 1; age <= 3; age++ {
		for script := range scripts {
			l, w := New(age), &watch{latest: map[int]int{}}
			w.step(l, age, 3)
			w.step(l, age, 0)
			for i, left := 0, script; i < steps || l.Len() > 0; i, left = i+1, left/choices {
				if i < steps {
					w.step(l, age, left%choices)
				}
				if key, ok := l.Pick(); ok && !w.picked(key) {
					t.Fatalf("age %d, script %d: P21.4 doesn't hold at the Pick %d, of %d", age, script, w.made, key)
				}
			}
		}
	}
}

// TestBoundIsReachedP21_4: a key is served as the (age + n + 1)-th where all that is against it comes together, and no later.
func TestBoundIsReachedP21_4(t *testing.T) {
	for _, age := range []int{1, 2, 5, 40, 255, 256, 1000} {
		for _, n := range []int{0, 1, 2, 9, 100, 254} {
			l := New(age)
			// The head is ahead of the keys that wait.
			adds(t, l, 999, api.OK)
			picks(t, l, 999)
			for i := range n {
				adds(t, l, 500-i, api.OK)
			}
			adds(t, l, 100, api.OK)
			for i := range age {
				// Those that come later go first, since they are at the head.
				adds(t, l, 1000+i, api.OK)
				if key, ok := l.Pick(); key != 1000+i || !ok {
					t.Fatalf("age %d, n %d: Pick %d is %d, %t", age, n, i, key, ok)
				}
			}
			adds(t, l, 0, api.OK)
			for i := range n {
				picks(t, l, 500-i)
			}
			picks(t, l, 100)
		}
	}
}

// TestLongScriptsP21: by chance, against the model, with P21.4 held too.
func TestLongScriptsP21(t *testing.T) {
	for seed := range int64(60) {
		r := rand.New(rand.NewSource(seed))
		age := []int{0, 1, 2, 5, 30, 300, 100000}[seed%7]
		wide := []int{2, 5, 40, 400}[seed%4]
		first := []int{0, 1000, api.MaxAt - wide + 1}[seed%3]
		l, m, w := New(age), fresh(age), &watch{latest: map[int]int{}}
		for i := range 1500 {
			key := first + r.Intn(wide)
			what := fmt.Sprintf("seed %d, call %d, key %d", seed, i, key)
			switch c := r.Intn(10); {
			case c < 5 || i < 400 && c < 8:
				n := l.Len()
				e := l.Add(key)
				if want := m.add(key); e != want {
					t.Fatalf("%s: Add is %d, want %d", what, e, want)
				}
				if e == api.OK {
					w.added(key, m.age, n)
				}
			case c < 9:
				got, ok := l.Pick()
				if want, there := m.pick(); got != want || ok != there {
					t.Fatalf("%s: Pick is %d, %t; want %d, %t", what, got, ok, want, there)
				}
				if ok && !w.picked(got) {
					t.Fatalf("%s: P21.4 doesn't hold", what)
				}
			default:
				if ok, want := l.Drop(key), m.drop(key); ok != want {
					t.Fatalf("%s: Drop is %t, want %t", what, ok, want)
				}
				delete(w.latest, key)
			}
			same(t, what, l, m)
		}
	}
}

func TestNilLiftP1(t *testing.T) {
	var l *Lift
	for _, key := range ints {
		adds(t, l, key, api.ErrNil)
		if l.Drop(key) {
			t.Errorf("Drop(%d) is true", key)
		}
		if n, ok := l.Waited(key); n != 0 || ok {
			t.Errorf("Waited(%d) is %d, %t", key, n, ok)
		}
	}
	none(t, l)
	if l.Head() != 0 {
		t.Errorf("the Head is %d", l.Head())
	}
}

func TestLiftsAreApartP2(t *testing.T) {
	a, b := New(2), New(5)
	adds(t, a, 1, api.OK)
	adds(t, a, 2, api.OK)
	same(t, "the other one", b, fresh(5))
	adds(t, b, 2, api.OK)
	adds(t, b, 7, api.OK)
	picks(t, b, 2)
	b.Drop(7)
	m := fresh(2)
	m.add(1)
	m.add(2)
	same(t, "the first one", a, m)
}
