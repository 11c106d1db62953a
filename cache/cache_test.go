package cache

import (
	"fmt"
	"math"
	"math/rand"
	"slices"
	"strings"
	"testing"

	"trunnion/api"
	"trunnion/marks"
)

// ints are numbers of all sizes: those about the edges of mosts, of stripes and of columns, and the least and greatest ones.
var ints = []int{math.MinInt, math.MinInt + 1, -1 << 40, -1 << 32, -64, -1, 0, 1, 2, 3, 4, 29, 30, 31, 32, 33, 62, 63, 64, 65, 127, 128, 255, 256, 257, 1 << 16, 1 << 32, 1 << 40, math.MaxInt - 1, math.MaxInt}

// full is a column's bytes, all of them this one.
func full(b byte) string {
	return strings.Repeat(string([]byte{b}), api.Block)
}

// numbered is a column's bytes, other ones for each number.
func numbered(i int) string {
	return fmt.Sprintf("%064d", i)
}

// made is a cache that may be.
func made(t *testing.T, most, dear, data int) *Cache {
	t.Helper()
	c, e := New(most, dear, data)
	if c == nil || e != api.OK {
		t.Fatalf("New(%d, %d, %d) is %v, %d", most, dear, data, c, e)
	}
	return c
}

// filled is a cache of three data columns, of which the column 0 of some stripes is filled, one after the other, with the stripe's number.
func filled(t *testing.T, most, dear int, stripes ...int) *Cache {
	t.Helper()
	c := made(t, most, dear, 3)
	for _, stripe := range stripes {
		fills(t, c, stripe, 0, numbered(stripe), api.OK)
	}
	return c
}

// fills holds what a Fill answers.
func fills(t *testing.T, c *Cache, stripe, column int, s string, want api.Errno) {
	t.Helper()
	if e := c.Fill(stripe, column, s); e != want {
		t.Errorf("Fill(%d, %d) of %d bytes: %d, want %d", stripe, column, len(s), e, want)
	}
}

// puts holds what a Put answers.
func puts(t *testing.T, c *Cache, stripe, column int, s string, want api.Errno) {
	t.Helper()
	if e := c.Put(stripe, column, s); e != want {
		t.Errorf("Put(%d, %d) of %d bytes: %d, want %d", stripe, column, len(s), e, want)
	}
}

// gets holds that a column is there; by asking for it the stripe is touched.
func gets(t *testing.T, c *Cache, stripe, column int, want string) {
	t.Helper()
	if s, ok := c.Get(stripe, column); s != want || !ok {
		t.Errorf("Get(%d, %d) is %q, %t; want %q", stripe, column, s, ok, want)
	}
}

// misses holds that a column isn't there.
func misses(t *testing.T, c *Cache, stripe, column int) {
	t.Helper()
	if s, ok := c.Get(stripe, column); s != "" || ok {
		t.Errorf("Get(%d, %d) is %q, %t; want none", stripe, column, s, ok)
	}
}

// olds holds what is old of a column; the empty text stands for none.
func olds(t *testing.T, c *Cache, stripe, column int, want string) {
	t.Helper()
	if s, ok := c.Old(stripe, column); s != want || ok != (want != "") {
		t.Errorf("Old(%d, %d) is %q, %t; want %q", stripe, column, s, ok, want)
	}
}

// sets holds which columns of a stripe are there, dirty and known.
func sets(t *testing.T, c *Cache, stripe int, have, dirty, known []int) {
	t.Helper()
	h, d := c.Have(stripe)
	if h != marks.Of(have...) || d != marks.Of(dirty...) {
		t.Errorf("Have(%d) is %v, %v; want %v, %v", stripe, h.List(), d.List(), have, dirty)
	}
	if k := c.Known(stripe); k != marks.Of(known...) {
		t.Errorf("Known(%d) is %v, want %v", stripe, k.List(), known)
	}
}

// there holds which stripes are there, of which each has a column, and which of these are dirty.
func there(t *testing.T, c *Cache, stripes []int, dirty []int) {
	t.Helper()
	var all []int
	for stripe := range api.MaxStripes {
		if have, _ := c.Have(stripe); !have.Empty() {
			all = append(all, stripe)
		}
	}
	if !slices.Equal(all, stripes) {
		t.Errorf("there are the stripes %v, want %v", all, stripes)
	}
	if got := c.Dirty(); !slices.Equal(got, dirty) {
		t.Errorf("Dirty is %v, want %v", got, dirty)
	}
	if n, d := c.Len(); n != len(stripes) || d != len(dirty) {
		t.Errorf("Len is %d, %d; want %d, %d", n, d, len(stripes), len(dirty))
	}
}

// goes holds which stripes go, one after the other, as others come: it fills those from 40 on, and ends the cache's turn by that.
func goes(t *testing.T, c *Cache, want ...int) {
	t.Helper()
	for i, stripe := range want {
		if have, _ := c.Have(stripe); have.Empty() {
			t.Errorf("the stripe %d isn't there any more, want it to go as number %d", stripe, i)
		}
		fills(t, c, 40+i, 0, full('x'), api.OK)
		if have, _ := c.Have(stripe); !have.Empty() {
			t.Errorf("the stripe %d is still there, want it to go as number %d", stripe, i)
		}
		// What came must not go itself as the next one comes.
		puts(t, c, 40+i, 0, full('x'), api.OK)
	}
}

// cell is what the model keeps of a column that is there; the empty text stands for what isn't known to be old.
type cell struct {
	now, old string
	dirty    bool
}

// entry is what the model keeps of a stripe: when it came to its row of the turn or was used last in it, which row that is, and its columns.
type entry struct {
	when  int
	dear  bool
	cells map[int]cell
}

// dirty: is one of its columns?
func (x *entry) dirty() bool {
	for _, l := range x.cells {
		if l.dirty {
			return true
		}
	}
	return false
}

// model is what the chapter's words, and those of layer 23 on a turn, say of a cache, in the plainest way.
type model struct {
	most, dear, data, clock int
	stripes                 map[int]*entry
}

// fresh is the model of New(most, dear, data).
func fresh(most, dear, data int) *model {
	return &model{most: most, dear: dear, data: data, stripes: map[int]*entry{}}
}

// comes: a stripe comes to a row, or is used in it.
func (m *model) comes(x *entry, dear bool) {
	m.clock++
	x.when, x.dear = m.clock, dear
}

// touch is P23.2.
func (m *model) touch(x *entry) {
	if m.dear == 0 {
		m.comes(x, false)
		return
	}
	m.comes(x, true)
	n, first := 0, x
	for _, y := range m.stripes {
		if y.dear {
			n++
			if y.when < first.when {
				first = y
			}
		}
	}
	if n > m.dear {
		m.comes(first, false)
	}
}

// victim is which stripe goes: the first plain one that isn't dirty, else the first dear one.
func (m *model) victim() (int, bool) {
	found, ok := 0, false
	for stripe, x := range m.stripes {
		if x.dirty() {
			continue
		}
		y := m.stripes[found]
		if !ok || !x.dear && y.dear || x.dear == y.dear && x.when < y.when {
			found, ok = stripe, true
		}
	}
	return found, ok
}

// get is P24.1's sentence on Get.
func (m *model) get(stripe, column int) (string, bool) {
	x := m.stripes[stripe]
	if x == nil {
		return "", false
	}
	l, ok := x.cells[column]
	if ok {
		m.touch(x)
	}
	return l.now, ok
}

// used is what P24.2 says of both Fill and Put.
func (m *model) used(stripe, column int, s string) (*entry, api.Errno) {
	if stripe < 0 || stripe > 63 || column < 0 || column > m.data-1 {
		return nil, api.ErrRange
	}
	if len(s) != 64 {
		return nil, api.ErrForm
	}
	if x := m.stripes[stripe]; x != nil {
		m.touch(x)
		return x, api.OK
	}
	if len(m.stripes) == m.most {
		victim, ok := m.victim()
		if !ok {
			return nil, api.ErrFull
		}
		delete(m.stripes, victim)
	}
	x := &entry{cells: map[int]cell{}}
	m.comes(x, false)
	m.stripes[stripe] = x
	return x, api.OK
}

// fill is P24.2's sentence on Fill.
func (m *model) fill(stripe, column int, s string) api.Errno {
	x, e := m.used(stripe, column, s)
	if e != api.OK {
		return e
	}
	l := x.cells[column]
	if l.dirty {
		x.cells[column] = cell{now: l.now, old: s, dirty: true}
	} else {
		x.cells[column] = cell{now: s, old: s}
	}
	return api.OK
}

// put is P24.2's sentence on Put.
func (m *model) put(stripe, column int, s string) api.Errno {
	x, e := m.used(stripe, column, s)
	if e == api.OK {
		x.cells[column] = cell{now: s, old: x.cells[column].old, dirty: true}
	}
	return e
}

// done is P24.4's sentence on Done.
func (m *model) done(stripe int) bool {
	x := m.stripes[stripe]
	if x == nil {
		return false
	}
	for column, l := range x.cells {
		x.cells[column] = cell{now: l.now, old: l.now}
	}
	return true
}

// drop is P24.4's sentence on Drop.
func (m *model) drop(stripe int) bool {
	x := m.stripes[stripe]
	if x == nil || x.dirty() {
		return false
	}
	delete(m.stripes, stripe)
	return true
}

// choices is in how many ways a stripe or a column may be asked of.
const choices = 5

// step makes one call of a cache and of its model, and tells what is wrong, if anything is.
func step(c *Cache, m *model, choice, stripe, column int, s string) string {
	var what string
	var got, want any
	switch choice {
	case 0:
		what, got, want = "Fill", c.Fill(stripe, column, s), m.fill(stripe, column, s)
	case 1:
		what, got, want = "Put", c.Put(stripe, column, s), m.put(stripe, column, s)
	case 2:
		a, ok := c.Get(stripe, column)
		b, is := m.get(stripe, column)
		what, got, want = "Get", fmt.Sprintf("%q, %t", a, ok), fmt.Sprintf("%q, %t", b, is)
	case 3:
		what, got, want = "Done", c.Done(stripe), m.done(stripe)
	default:
		what, got, want = "Drop", c.Drop(stripe), m.drop(stripe)
	}
	if got != want {
		return fmt.Sprintf("%s of %d, %d is %v, want %v", what, stripe, column, got, want)
	}
	return ""
}

// differs tells what of a stripe isn't as its model has it, by all calls that change nothing.
func differs(c *Cache, m *model, stripe int) string {
	x := m.stripes[stripe]
	if x == nil {
		x = &entry{}
	}
	var have, dirty, known marks.Set
	for column, l := range x.cells {
		have = have.With(column)
		if l.dirty {
			dirty = dirty.With(column)
		}
		if l.old != "" {
			known = known.With(column)
		}
	}
	if h, d := c.Have(stripe); h != have || d != dirty {
		return fmt.Sprintf("Have(%d) is %v, %v; want %v, %v", stripe, h.List(), d.List(), have.List(), dirty.List())
	}
	if k := c.Known(stripe); k != known {
		return fmt.Sprintf("Known(%d) is %v, want %v", stripe, k.List(), known.List())
	}
	for column := -1; column <= m.data; column++ {
		want := x.cells[column].old
		if s, ok := c.Old(stripe, column); s != want || ok != (want != "") {
			return fmt.Sprintf("Old(%d, %d) is %q, %t; want %q", stripe, column, s, ok, want)
		}
	}
	return ""
}

// differ tells what of a cache isn't as its model has it, at these stripes, by all calls that change nothing.
func differ(c *Cache, m *model, stripes ...int) string {
	for _, stripe := range stripes {
		if wrong := differs(c, m, stripe); wrong != "" {
			return wrong
		}
	}
	var dirty []int
	for stripe, x := range m.stripes {
		if x.dirty() {
			dirty = append(dirty, stripe)
		}
	}
	slices.Sort(dirty)
	if got := c.Dirty(); !slices.Equal(got, dirty) {
		return fmt.Sprintf("Dirty is %v, want %v", got, dirty)
	}
	if n, d := c.Len(); n != len(m.stripes) || d != len(dirty) {
		return fmt.Sprintf("Len is %d, %d; want %d, %d", n, d, len(m.stripes), len(dirty))
	}
	return ""
}

// unlike tells which columns haven't the bytes that their model has; each stripe that is there is touched by that.
func unlike(c *Cache, m *model, stripes ...int) string {
	for _, stripe := range stripes {
		for column := range m.data {
			if wrong := step(c, m, 2, stripe, column, ""); wrong != "" {
				return wrong
			}
		}
	}
	return ""
}

// TestExampleP24: the chapter's example.
func TestExampleP24(t *testing.T) {
	c := made(t, 2, 1, 3)
	fills(t, c, 0, 1, full('a'), api.OK)
	puts(t, c, 0, 1, full('b'), api.OK)
	gets(t, c, 0, 1, full('b'))
	olds(t, c, 0, 1, full('a'))
	if !c.Done(0) {
		t.Error("Done(0) is false")
	}
	olds(t, c, 0, 1, full('b'))
	gets(t, c, 0, 1, full('b'))
}

func TestWhatMayBeP24_1(t *testing.T) {
	for _, most := range ints {
		for _, dear := range ints {
			for _, data := range ints {
				c, e := New(most, dear, data)
				if most >= 1 && most <= 64 && dear >= 0 && dear <= most-1 && data >= 2 && data <= 30 {
					if c == nil || e != api.OK {
						t.Fatalf("New(%d, %d, %d) is %v, %d", most, dear, data, c, e)
					}
					if n, d := c.Len(); n != 0 || d != 0 || len(c.Dirty()) != 0 {
						t.Fatalf("New(%d, %d, %d) has %d stripes, %d of them dirty", most, dear, data, n, d)
					}
				} else if c != nil || e != api.ErrArg {
					t.Fatalf("New(%d, %d, %d) is %v, %d; want ErrArg", most, dear, data, c, e)
				}
			}
		}
	}
}

// TestSizesP24_1: of each size that may be, as many stripes are there as are said, and the next one has no place.
func TestSizesP24_1(t *testing.T) {
	for most := 1; most <= 64; most++ {
		for _, dear := range []int{0, most / 2, most - 1} {
			c := made(t, most, dear, 2)
			for stripe := range most {
				puts(t, c, stripe, stripe%2, numbered(stripe), api.OK)
			}
			if most < 64 {
				puts(t, c, most, 0, full('x'), api.ErrFull)
			}
			if n, d := c.Len(); n != most || d != most {
				t.Fatalf("New(%d, %d, 2): Len is %d, %d", most, dear, n, d)
			}
			for stripe := range most {
				gets(t, c, stripe, stripe%2, numbered(stripe))
			}
		}
	}
}

// TestGetOfNoneP24_1: neither of stripes and columns that aren't there, nor of such that may not be.
func TestGetOfNoneP24_1(t *testing.T) {
	for _, data := range []int{2, 3, 29, 30} {
		c := made(t, 5, 2, data)
		puts(t, c, 0, data-1, full('a'), api.OK)
		fills(t, c, 63, 0, full('b'), api.OK)
		for _, stripe := range ints {
			for _, column := range ints {
				switch {
				case stripe == 0 && column == data-1:
					gets(t, c, stripe, column, full('a'))
				case stripe == 63 && column == 0:
					gets(t, c, stripe, column, full('b'))
				default:
					misses(t, c, stripe, column)
				}
			}
		}
		there(t, c, []int{0, 63}, []int{0})
	}
}

// TestGetTouchesP24_1: the stripe is dear then, and the last one of these.
func TestGetTouchesP24_1(t *testing.T) {
	c := filled(t, 4, 2, 1, 2, 3, 4)
	gets(t, c, 1, 0, numbered(1))
	goes(t, c, 2, 3, 4, 1)
	c = filled(t, 4, 3, 1, 2, 3, 4)
	for _, stripe := range []int{3, 1, 2, 3} {
		gets(t, c, stripe, 0, numbered(stripe))
	}
	goes(t, c, 4, 1, 2, 3)
	c = filled(t, 4, 1, 1, 2, 3, 4)
	gets(t, c, 2, 0, numbered(2))
	gets(t, c, 1, 0, numbered(1))
	goes(t, c, 3, 4, 2, 1)
	c = filled(t, 3, 0, 1, 2, 3)
	gets(t, c, 1, 0, numbered(1))
	goes(t, c, 2, 3, 1)
}

// TestGetOfNoneTouchesNothingP24_1: a column that isn't there, of a stripe that is.
func TestGetOfNoneTouchesNothingP24_1(t *testing.T) {
	c := filled(t, 3, 2, 1, 2, 3)
	for _, column := range []int{math.MinInt, -1, 1, 2, 3, 64, 256, math.MaxInt} {
		misses(t, c, 1, column)
	}
	misses(t, c, 9, 0)
	goes(t, c, 1, 2, 3)
}

// TestWhichMayBeP24_2: all stripes and columns that may be, of each number of data columns, and no others.
func TestWhichMayBeP24_2(t *testing.T) {
	for data := 2; data <= 30; data++ {
		c := made(t, 64, 3, data)
		for stripe := range 64 {
			for column := range data {
				fills(t, c, stripe, column, numbered(stripe*100+column), api.OK)
				puts(t, c, stripe, column, numbered(stripe*100+column+50), api.OK)
			}
		}
		for stripe := range 64 {
			for column := range data {
				gets(t, c, stripe, column, numbered(stripe*100+column+50))
				olds(t, c, stripe, column, numbered(stripe*100+column))
			}
		}
		for _, stripe := range ints {
			for _, column := range ints {
				want := api.OK
				if stripe < 0 || stripe > 63 || column < 0 || column > data-1 {
					want = api.ErrRange
				}
				fills(t, c, stripe, column, full('f'), want)
				puts(t, c, stripe, column, full('p'), want)
			}
		}
	}
}

// TestWhichBytesP24_2: each byte may be, and Block of them it must be.
func TestWhichBytesP24_2(t *testing.T) {
	c := made(t, 2, 1, 2)
	for _, n := range []int{0, 1, 32, 63, 65, 128, 1 << 16} {
		fills(t, c, 0, 0, strings.Repeat("x", n), api.ErrForm)
		puts(t, c, 0, 1, strings.Repeat("x", n), api.ErrForm)
	}
	there(t, c, nil, nil)
	for b := range 256 {
		fills(t, c, 0, 0, full(byte(b)), api.OK)
		gets(t, c, 0, 0, full(byte(b)))
		olds(t, c, 0, 0, full(byte(b)))
		puts(t, c, 0, 1, full(byte(b)), api.OK)
		gets(t, c, 0, 1, full(byte(b)))
	}
	// Runes of two bytes: 64 bytes, which are 32 runes.
	fills(t, c, 0, 0, strings.Repeat("ä", 32), api.OK)
	fills(t, c, 0, 0, strings.Repeat("ä", 64), api.ErrForm)
	gets(t, c, 0, 0, strings.Repeat("ä", 32))
}

// TestOrderOfErrorsP24_2: ErrRange ahead of ErrForm, and that ahead of ErrFull.
func TestOrderOfErrorsP24_2(t *testing.T) {
	c := made(t, 1, 0, 3)
	puts(t, c, 7, 0, full('a'), api.OK)
	for _, x := range []struct {
		stripe, column int
		s              string
		want           api.Errno
	}{
		{-1, 0, "", api.ErrRange},
		{64, 0, full('x') + "x", api.ErrRange},
		{0, -1, "", api.ErrRange},
		{7, 3, "x", api.ErrRange},
		{8, 3, full('x'), api.ErrRange},
		{64, 3, full('x'), api.ErrRange},
		{8, 2, "", api.ErrForm},
		{8, 2, full('x') + "x", api.ErrForm},
		{7, 2, "x", api.ErrForm},
		{8, 2, full('x'), api.ErrFull},
		{0, 0, full('x'), api.ErrFull},
		{63, 0, full('x'), api.ErrFull},
	} {
		fills(t, c, x.stripe, x.column, x.s, x.want)
		puts(t, c, x.stripe, x.column, x.s, x.want)
		there(t, c, []int{7}, []int{7})
		sets(t, c, 7, []int{0}, []int{0}, nil)
	}
	gets(t, c, 7, 0, full('a'))
}

// TestRefusedCallLeavesAllP24_2: it makes no place, adds nothing, and touches nothing.
func TestRefusedCallLeavesAllP24_2(t *testing.T) {
	c := filled(t, 3, 2, 1, 2, 3)
	for _, stripe := range []int{1, 9} {
		for _, column := range []int{-1, 3, math.MaxInt} {
			fills(t, c, stripe, column, full('x'), api.ErrRange)
			puts(t, c, stripe, column, full('x'), api.ErrRange)
		}
		for _, s := range []string{"", "x", full('x') + "x"} {
			fills(t, c, stripe, 0, s, api.ErrForm)
			puts(t, c, stripe, 1, s, api.ErrForm)
		}
	}
	fills(t, c, 64, 0, full('x'), api.ErrRange)
	puts(t, c, -1, 0, full('x'), api.ErrRange)
	there(t, c, []int{1, 2, 3}, nil)
	sets(t, c, 1, []int{0}, nil, []int{0})
	olds(t, c, 1, 0, numbered(1))
	goes(t, c, 1, 2, 3)
}

// TestFillP24_2: it is there, and old of itself; a later one takes its place.
func TestFillP24_2(t *testing.T) {
	c := made(t, 2, 1, 4)
	fills(t, c, 5, 3, full('a'), api.OK)
	sets(t, c, 5, []int{3}, nil, []int{3})
	fills(t, c, 5, 0, full('b'), api.OK)
	fills(t, c, 5, 3, full('c'), api.OK)
	sets(t, c, 5, []int{0, 3}, nil, []int{0, 3})
	for column, s := range map[int]string{0: full('b'), 3: full('c')} {
		gets(t, c, 5, column, s)
		olds(t, c, 5, column, s)
	}
	misses(t, c, 5, 1)
	there(t, c, []int{5}, nil)
}

// TestFillOfDirtyP24_2: it is old of it, and the column keeps its bytes, and is dirty; another column of the stripe isn't.
func TestFillOfDirtyP24_2(t *testing.T) {
	c := made(t, 2, 1, 4)
	puts(t, c, 5, 3, full('p'), api.OK)
	sets(t, c, 5, []int{3}, []int{3}, nil)
	olds(t, c, 5, 3, "")
	for _, b := range []byte("abc") {
		fills(t, c, 5, 3, full(b), api.OK)
		gets(t, c, 5, 3, full('p'))
		olds(t, c, 5, 3, full(b))
		sets(t, c, 5, []int{3}, []int{3}, []int{3})
	}
	fills(t, c, 5, 2, full('d'), api.OK)
	gets(t, c, 5, 2, full('d'))
	olds(t, c, 5, 2, full('d'))
	sets(t, c, 5, []int{2, 3}, []int{3}, []int{2, 3})
	there(t, c, []int{5}, []int{5})
}

// TestPutP24_2: it is there and dirty; what was old stays so, if there was any.
func TestPutP24_2(t *testing.T) {
	c := made(t, 2, 1, 4)
	for _, b := range []byte("pqr") {
		puts(t, c, 5, 1, full(b), api.OK)
		gets(t, c, 5, 1, full(b))
		olds(t, c, 5, 1, "")
		sets(t, c, 5, []int{1}, []int{1}, nil)
	}
	fills(t, c, 5, 0, full('a'), api.OK)
	for _, b := range []byte("stu") {
		puts(t, c, 5, 0, full(b), api.OK)
		gets(t, c, 5, 0, full(b))
		olds(t, c, 5, 0, full('a'))
		sets(t, c, 5, []int{0, 1}, []int{0, 1}, []int{0})
	}
	// Also if the bytes are those that are old.
	puts(t, c, 6, 2, full('v'), api.OK)
	fills(t, c, 6, 2, full('v'), api.OK)
	puts(t, c, 6, 2, full('v'), api.OK)
	sets(t, c, 6, []int{2}, []int{2}, []int{2})
	there(t, c, []int{5, 6}, []int{5, 6})
}

// TestFillAndPutTouchP24_2: a stripe that is there is dear then; one that isn't is added as a plain one.
func TestFillAndPutTouchP24_2(t *testing.T) {
	for _, column := range []int{0, 2} {
		c := filled(t, 4, 2, 1, 2, 3, 4)
		fills(t, c, 2, column, full('x'), api.OK)
		fills(t, c, 1, column, full('x'), api.OK)
		goes(t, c, 3, 4, 2, 1)
		c = filled(t, 4, 2, 1, 2, 3, 4)
		puts(t, c, 2, column, full('x'), api.OK)
		puts(t, c, 1, column, full('x'), api.OK)
		c.Done(1)
		c.Done(2)
		goes(t, c, 3, 4, 2, 1)
		c = filled(t, 3, 2, 1, 2, 3)
		puts(t, c, 2, column, full('x'), api.OK)
		fills(t, c, 2, column, full('y'), api.OK)
		fills(t, c, 1, column, full('z'), api.OK)
		c.Done(2)
		goes(t, c, 3, 2, 1)
	}
	// Added by a Put: plain, so that it goes ahead of a dear one that came earlier.
	c := filled(t, 3, 2, 1)
	gets(t, c, 1, 0, numbered(1))
	puts(t, c, 2, 0, full('x'), api.OK)
	fills(t, c, 3, 0, full('x'), api.OK)
	c.Done(2)
	goes(t, c, 2, 3, 1)
}

// TestPlaceP24_2: the victim's stripe isn't there any more, with all its columns, and what was old of them.
func TestPlaceP24_2(t *testing.T) {
	c := made(t, 2, 1, 3)
	for column := range 3 {
		puts(t, c, 1, column, full('a'), api.OK)
		fills(t, c, 1, column, full('b'), api.OK)
	}
	c.Done(1)
	puts(t, c, 2, 0, full('c'), api.OK)
	fills(t, c, 3, 1, full('d'), api.OK)
	there(t, c, []int{2, 3}, []int{2})
	sets(t, c, 1, nil, nil, nil)
	for column := range 3 {
		misses(t, c, 1, column)
		olds(t, c, 1, column, "")
	}
	// It comes back as a new one.
	puts(t, c, 1, 2, full('e'), api.OK)
	there(t, c, []int{1, 2}, []int{1, 2})
	sets(t, c, 1, []int{2}, []int{2}, nil)
	sets(t, c, 3, nil, nil, nil)
	fills(t, c, 3, 1, full('d'), api.ErrFull)
}

// TestNoPlaceIsMadeP24_2: for a stripe that is there, or while the turn isn't full.
func TestNoPlaceIsMadeP24_2(t *testing.T) {
	c := filled(t, 3, 1, 1, 2)
	fills(t, c, 3, 0, full('x'), api.OK)
	there(t, c, []int{1, 2, 3}, nil)
	for _, stripe := range []int{1, 2, 3} {
		puts(t, c, stripe, 1, full('y'), api.OK)
		fills(t, c, stripe, 2, full('z'), api.OK)
	}
	there(t, c, []int{1, 2, 3}, []int{1, 2, 3})
	fills(t, c, 4, 0, full('x'), api.ErrFull)
	puts(t, c, 4, 0, full('x'), api.ErrFull)
	for _, stripe := range []int{1, 2, 3} {
		fills(t, c, stripe, 0, full('x'), api.OK)
		puts(t, c, stripe, 0, full('x'), api.OK)
	}
	there(t, c, []int{1, 2, 3}, []int{1, 2, 3})
}

// TestVictimIsNotDirtyP24_2: those that aren't dirty go, plain ones ahead of dear ones, and ErrFull is told if there are none.
func TestVictimIsNotDirtyP24_2(t *testing.T) {
	c := filled(t, 5, 2, 1, 2, 3, 4, 5)
	puts(t, c, 4, 0, full('x'), api.OK)
	gets(t, c, 5, 0, numbered(5))
	puts(t, c, 1, 2, full('x'), api.OK)
	// Plain are 2, 3, 4, dear 5, 1; 4 and 1 are dirty.
	for i, stripe := range []int{2, 3, 5} {
		puts(t, c, 10+i, 0, full('y'), api.OK)
		sets(t, c, stripe, nil, nil, nil)
	}
	puts(t, c, 13, 0, full('y'), api.ErrFull)
	there(t, c, []int{1, 4, 10, 11, 12}, []int{1, 4, 10, 11, 12})
	c.Done(4)
	puts(t, c, 13, 0, full('y'), api.OK)
	there(t, c, []int{1, 10, 11, 12, 13}, []int{1, 10, 11, 12, 13})
}

// TestOldOfNoneP24_3: neither of stripes and columns that aren't there, nor of such that may not be.
func TestOldOfNoneP24_3(t *testing.T) {
	c := made(t, 5, 2, 30)
	puts(t, c, 0, 29, full('a'), api.OK)
	fills(t, c, 63, 29, full('b'), api.OK)
	for _, stripe := range ints {
		for _, column := range ints {
			if stripe == 63 && column == 29 {
				olds(t, c, stripe, column, full('b'))
			} else {
				olds(t, c, stripe, column, "")
			}
		}
		switch stripe {
		case 0:
			sets(t, c, stripe, []int{29}, []int{29}, nil)
		case 63:
			sets(t, c, stripe, []int{29}, nil, []int{29})
		default:
			sets(t, c, stripe, nil, nil, nil)
		}
	}
	there(t, c, []int{0, 63}, []int{0})
}

// TestTellingTouchesNothingP24_3: what asks for sets, for old bytes, and for stripes, leaves the turn as it is.
func TestTellingTouchesNothingP24_3(t *testing.T) {
	c := filled(t, 3, 2, 1, 2, 3)
	for range 3 {
		olds(t, c, 1, 0, numbered(1))
		olds(t, c, 1, 1, "")
		sets(t, c, 1, []int{0}, nil, []int{0})
		there(t, c, []int{1, 2, 3}, nil)
	}
	goes(t, c, 1, 2, 3)
}

// TestDirtyRisesP24_3: in whichever order the stripes came, at all stripes that may be.
func TestDirtyRisesP24_3(t *testing.T) {
	for seed := range int64(20) {
		r := rand.New(rand.NewSource(seed))
		c := made(t, 64, r.Intn(64), 2)
		var dirty []int
		for i, stripe := range r.Perm(64) {
			if i%3 == 0 {
				fills(t, c, stripe, 0, full('x'), api.OK)
				continue
			}
			puts(t, c, stripe, i%2, full('y'), api.OK)
			dirty = append(dirty, stripe)
			slices.Sort(dirty)
			if got := c.Dirty(); !slices.Equal(got, dirty) {
				t.Fatalf("Dirty is %v, want %v", got, dirty)
			}
		}
		for _, stripe := range r.Perm(64) {
			c.Done(stripe)
			dirty = slices.DeleteFunc(dirty, func(x int) bool { return x == stripe })
			if got := c.Dirty(); !slices.Equal(got, dirty) {
				t.Fatalf("behind Done(%d) Dirty is %v, want %v", stripe, got, dirty)
			}
		}
	}
}

func TestDirtyIsNewMemoryP24_3(t *testing.T) {
	c := made(t, 4, 2, 2)
	for stripe := range 3 {
		puts(t, c, stripe, 0, full('x'), api.OK)
	}
	told, again := c.Dirty(), c.Dirty()
	told = told[:cap(told)]
	for i := range told {
		told[i] = 99
	}
	there(t, c, []int{0, 1, 2}, []int{0, 1, 2})
	c.Done(1)
	puts(t, c, 3, 0, full('x'), api.OK)
	if !slices.Equal(again, []int{0, 1, 2}) {
		t.Errorf("what was told changed: %v", again)
	}
	h, d := c.Have(3)
	h[0], d[0] = 0, 0
	k := c.Known(1)
	k[0] = 0
	sets(t, c, 3, []int{0}, []int{0}, nil)
	sets(t, c, 1, []int{0}, nil, []int{0})
}

// TestDoneP24_4: of all columns of its stripe, and of no other one.
func TestDoneP24_4(t *testing.T) {
	c := made(t, 3, 1, 5)
	for _, stripe := range []int{4, 9} {
		fills(t, c, stripe, 0, full('a'), api.OK)
		fills(t, c, stripe, 1, full('b'), api.OK)
		puts(t, c, stripe, 1, full('c'), api.OK)
		puts(t, c, stripe, 2, full('d'), api.OK)
		puts(t, c, stripe, 3, full('e'), api.OK)
		fills(t, c, stripe, 3, full('f'), api.OK)
	}
	for range 2 {
		// Once is enough, and twice is no harm.
		if !c.Done(4) {
			t.Error("Done(4) is false")
		}
		sets(t, c, 4, []int{0, 1, 2, 3}, nil, []int{0, 1, 2, 3})
		for column, s := range []string{full('a'), full('c'), full('d'), full('e')} {
			gets(t, c, 4, column, s)
			olds(t, c, 4, column, s)
		}
		misses(t, c, 4, 4)
		olds(t, c, 4, 4, "")
		there(t, c, []int{4, 9}, []int{9})
	}
	sets(t, c, 9, []int{0, 1, 2, 3}, []int{1, 2, 3}, []int{0, 1, 3})
	for column, s := range []string{full('a'), full('b'), "", full('f')} {
		olds(t, c, 9, column, s)
	}
	// What is put from here on has what members have as old.
	puts(t, c, 4, 2, full('g'), api.OK)
	gets(t, c, 4, 2, full('g'))
	olds(t, c, 4, 2, full('d'))
	sets(t, c, 4, []int{0, 1, 2, 3}, []int{2}, []int{0, 1, 2, 3})
	there(t, c, []int{4, 9}, []int{4, 9})
}

// TestDoneTouchesNothingP24_4: the stripe may go then, from the place at which it stands.
func TestDoneTouchesNothingP24_4(t *testing.T) {
	c := filled(t, 3, 2, 9, 2, 3)
	c.Drop(9)
	puts(t, c, 1, 0, full('x'), api.OK)
	fills(t, c, 4, 0, full('y'), api.OK)
	there(t, c, []int{1, 3, 4}, []int{1})
	for range 2 {
		if !c.Done(1) || !c.Done(3) {
			t.Error("Done is false")
		}
	}
	goes(t, c, 3, 1, 4)
}

// TestDoneOfOneIsPinnedAgainP24_4: each Put pins the stripe anew.
func TestDoneOfOneIsPinnedAgainP24_4(t *testing.T) {
	c := made(t, 1, 0, 2)
	for i := range 5 {
		puts(t, c, 7, i%2, numbered(i), api.OK)
		fills(t, c, 8, 0, full('x'), api.ErrFull)
		c.Done(7)
	}
	fills(t, c, 8, 0, full('x'), api.OK)
	there(t, c, []int{8}, nil)
}

func TestDoneAndDropOfNoneP24_4(t *testing.T) {
	c := filled(t, 5, 2, 0, 63)
	puts(t, c, 5, 0, full('x'), api.OK)
	for _, stripe := range ints {
		if stripe == 0 || stripe == 63 {
			continue
		}
		if c.Done(stripe) || c.Drop(stripe) {
			t.Errorf("something was done with the stripe %d", stripe)
		}
	}
	there(t, c, []int{0, 5, 63}, []int{5})
	sets(t, c, 5, []int{0}, []int{0}, nil)
}

// TestDropP24_4: a stripe that is dirty stays, whole, and one that isn't goes, with all that it has.
func TestDropP24_4(t *testing.T) {
	c := filled(t, 3, 1, 1, 2)
	puts(t, c, 1, 2, full('x'), api.OK)
	for range 2 {
		if c.Drop(1) {
			t.Error("Drop of a dirty stripe is true")
		}
		there(t, c, []int{1, 2}, []int{1})
		sets(t, c, 1, []int{0, 2}, []int{2}, []int{0})
		gets(t, c, 1, 2, full('x'))
		gets(t, c, 1, 0, numbered(1))
	}
	c.Done(1)
	if !c.Drop(1) || c.Drop(1) || c.Done(1) {
		t.Error("Drop(1) isn't true once")
	}
	there(t, c, []int{2}, nil)
	sets(t, c, 1, nil, nil, nil)
	misses(t, c, 1, 0)
	olds(t, c, 1, 2, "")
	// Another one has its place, and it may come back as a new one, plain and not pinned.
	fills(t, c, 3, 0, full('y'), api.OK)
	fills(t, c, 1, 1, full('z'), api.OK)
	sets(t, c, 1, []int{1}, nil, []int{1})
	there(t, c, []int{1, 2, 3}, nil)
	goes(t, c, 2, 3, 1)
}

// TestDropOfDirtyTouchesNothingP24_4: what it refuses stands where it stood.
func TestDropOfDirtyTouchesNothingP24_4(t *testing.T) {
	c := filled(t, 3, 2, 9)
	puts(t, c, 1, 0, full('x'), api.OK)
	puts(t, c, 2, 0, full('x'), api.OK)
	if c.Drop(1) {
		t.Error("Drop of a dirty stripe is true")
	}
	c.Done(1)
	c.Done(2)
	goes(t, c, 9, 1, 2)
}

// TestLenP24_4: a stripe with several dirty columns is one.
func TestLenP24_4(t *testing.T) {
	c, m := made(t, 64, 5, 3), fresh(64, 5, 3)
	for stripe := range 64 {
		for column := range 1 + stripe%3 {
			choice := (stripe + column) % 2
			if wrong := step(c, m, choice, stripe, column, numbered(stripe)); wrong != "" {
				t.Fatal(wrong)
			}
			if wrong := differ(c, m, stripe); wrong != "" {
				t.Fatal(wrong)
			}
		}
	}
}

// TestDirtyIsNeverLostP24_5: what was put last stands till its stripe is done, whatever else is called meanwhile.
func TestDirtyIsNeverLostP24_5(t *testing.T) {
	type place struct{ stripe, column int }
	for seed := range int64(60) {
		r := rand.New(rand.NewSource(seed))
		most := []int{1, 2, 3, 8, 64}[seed%5]
		c := made(t, most, r.Intn(most), 4)
		kept := map[place]string{}
		for i := range 1500 {
			at := place{r.Intn(min(most+3, 64)), r.Intn(4)}
			switch s := numbered(i); r.Intn(12) {
			case 0, 1, 2, 3:
				c.Fill(at.stripe, at.column, s)
			case 4, 5, 6:
				if c.Put(at.stripe, at.column, s) == api.OK {
					kept[at] = s
				}
			case 7, 8:
				c.Get(at.stripe, at.column)
			case 9, 10:
				c.Drop(at.stripe)
			default:
				c.Done(at.stripe)
				for column := range 4 {
					delete(kept, place{at.stripe, column})
				}
			}
			for at, s := range kept {
				if _, dirty := c.Have(at.stripe); !dirty.Has(at.column) {
					t.Fatalf("seed %d, call %d: the column %v isn't dirty any more", seed, i, at)
				}
				// Not at each call, so that the turn isn't ruled by these alone.
				if i%50 == 0 {
					gets(t, c, at.stripe, at.column, s)
				}
			}
		}
	}
}

// TestAllDirtyP24_5: nothing but Done makes a place in a cache all of whose stripes are dirty.
func TestAllDirtyP24_5(t *testing.T) {
	for _, most := range []int{1, 2, 5, 63} {
		c := made(t, most, most-1, 2)
		for stripe := range most {
			puts(t, c, stripe, 1, numbered(stripe), api.OK)
		}
		for stripe := range 64 {
			want := api.OK
			if stripe >= most {
				want = api.ErrFull
			}
			fills(t, c, stripe, 0, full('f'), want)
			fills(t, c, stripe, 1, full('g'), want)
			puts(t, c, stripe, 0, full('p'), want)
			if c.Drop(stripe) {
				t.Errorf("Drop(%d) is true", stripe)
			}
		}
		for stripe := range most {
			sets(t, c, stripe, []int{0, 1}, []int{0, 1}, []int{0, 1})
			gets(t, c, stripe, 1, numbered(stripe))
		}
		c.Done(most / 2)
		puts(t, c, 63, 0, full('x'), api.OK)
		sets(t, c, most/2, nil, nil, nil)
		if n, d := c.Len(); n != most || d != most {
			t.Errorf("Len is %d, %d; want %d, %d", n, d, most, most)
		}
	}
}

// TestAllScriptsP24: all scripts of four steps of three stripes, behind some that were made already, of all caches for at most three stripes.
func TestAllScriptsP24(t *testing.T) {
	const steps, stripes, ways = 4, 3, choices * 3
	scripts := 1
	for range steps {
		scripts *= ways
	}
	for _, size := range [][2]int{{1, 0}, {2, 0}, {2, 1}, {3, 0}, {3, 1}, {3, 2}} {
		for script := range scripts {
			c, m := made(t, size[0], size[1], 2), fresh(size[0], size[1], 2)
			// One of them is there already, and dirty, so that four steps lead further.
			wrong := step(c, m, 1, 0, 1, full('o'))
			left := script
			for i := range steps {
				// The column is the other one at each other step, so that it is met again.
				if wrong == "" {
					wrong = step(c, m, left%choices, left/choices%stripes, i/2%2, full(byte('a'+i)))
				}
				left /= ways
				if wrong == "" {
					wrong = differ(c, m, 0, 1, 2)
				}
			}
			if wrong == "" {
				wrong = unlike(c, m, 0, 1, 2)
			}
			if wrong != "" {
				t.Fatalf("New(%d, %d), script %d: %s", size[0], size[1], script, wrong)
			}
		}
	}
}

// TestLongScriptsP24: by chance, against the model.
func TestLongScriptsP24(t *testing.T) {
	for seed := range int64(90) {
		r := rand.New(rand.NewSource(seed))
		most := []int{1, 2, 3, 5, 17, 63, 64}[seed%7]
		dear, data := r.Intn(most), []int{2, 3, 30}[seed%3]
		wide := most + 1 + r.Intn(most)
		all := make([]int, wide+1)
		for i := range all {
			all[i] = i - 1
		}
		c, m := made(t, most, dear, data), fresh(most, dear, data)
		for i := range 900 {
			// Fills and Puts come more often, so that caches are full at times.
			choice := []int{0, 0, 0, 1, 1, 2, 2, 3, 4}[r.Intn(9)]
			s := numbered(i)[:64-max(0, r.Intn(40)-38)]
			wrong := step(c, m, choice, r.Intn(wide+1)-1, r.Intn(min(data, 4)+1)+data-min(data, 4), s)
			if wrong == "" {
				wrong = differ(c, m, r.Intn(wide+1)-1, r.Intn(wide+1)-1)
			}
			if wrong == "" && i%100 == 0 {
				wrong = differ(c, m, all...)
			}
			if wrong != "" {
				t.Fatalf("seed %d, call %d: %s", seed, i, wrong)
			}
		}
		if wrong := unlike(c, m, all...); wrong != "" {
			t.Fatalf("seed %d: %s", seed, wrong)
		}
	}
}

func TestNilCacheP1(t *testing.T) {
	var c *Cache
	for _, stripe := range ints {
		for _, column := range ints {
			misses(t, c, stripe, column)
			olds(t, c, stripe, column, "")
			for _, s := range []string{"", "x", full('x')} {
				fills(t, c, stripe, column, s, api.ErrNil)
				puts(t, c, stripe, column, s, api.ErrNil)
			}
		}
		sets(t, c, stripe, nil, nil, nil)
		if c.Done(stripe) || c.Drop(stripe) {
			t.Errorf("something was done with the stripe %d", stripe)
		}
	}
	there(t, c, nil, nil)
}

// TestAllIntsP1: of a cache that has stripes, at all stripes and columns.
func TestAllIntsP1(t *testing.T) {
	for _, data := range []int{2, 30} {
		c, m := made(t, 3, 1, data), fresh(3, 1, data)
		if wrong := step(c, m, 1, 1, 1, full('a')); wrong != "" {
			t.Fatal(wrong)
		}
		for i, stripe := range ints {
			for _, column := range ints {
				for choice := range choices {
					if wrong := step(c, m, choice, stripe, column, numbered(i)); wrong != "" {
						t.Fatal(wrong)
					}
				}
			}
			if wrong := differ(c, m, ints...); wrong != "" {
				t.Fatalf("behind the stripe %d: %s", stripe, wrong)
			}
		}
	}
}

func TestCachesAreApartP2(t *testing.T) {
	a, b := filled(t, 2, 1, 1, 2), filled(t, 2, 1, 1, 2)
	puts(t, b, 1, 0, full('x'), api.OK)
	puts(t, b, 1, 2, full('y'), api.OK)
	fills(t, b, 3, 0, full('z'), api.OK)
	there(t, a, []int{1, 2}, nil)
	sets(t, a, 1, []int{0}, nil, []int{0})
	olds(t, a, 1, 0, numbered(1))
	a.Done(1)
	a.Drop(1)
	there(t, b, []int{1, 3}, []int{1})
	gets(t, b, 1, 0, full('x'))
	olds(t, b, 1, 0, numbered(1))
	// Neither did b's calls touch or pin anything in a.
	a = filled(t, 2, 1, 1, 2)
	puts(t, b, 1, 0, full('x'), api.OK)
	goes(t, a, 1, 2)
}
