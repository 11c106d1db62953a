package row

import (
	"fmt"
	"maps"
	"math"
	"math/rand"
	"reflect"
	"slices"
	"strings"
	"sync"
	"testing"

	"trunnion/api"
	"trunnion/bay"
	"trunnion/geom"
	"trunnion/label"
	"trunnion/record"
	"trunnion/repair"
	"trunnion/syndrome"
)

// ints are numbers of all sizes: those about the edges of members, columns, stripes and sets, and the least and greatest ones.
var ints = []int{math.MinInt, math.MinInt + 1, -1 << 32, -256, -65, -64, -33, -32, -6, -5, -4, -2, -1, 0, 1, 2, 3, 4, 5, 6, 7, 8, 29, 30, 31, 32, 33, 34, 62, 63, 64, 65, 100, 127, 128, 255, 256, 257, 1 << 16, 1 << 32, 1<<32 + 1, math.MaxInt - 1, math.MaxInt}

// full is a column's bytes, all of them alike.
func full(c byte) string {
	return strings.Repeat(string([]byte{c}), 64)
}

// array is a bay, its label, and what each stripe's columns are.
type array struct {
	bay   *bay.Bay
	l     label.Label
	truth [][]string
}

// memberOf is where a column lies, by the words of layer 9's chapter.
func memberOf(n, stripe, column int) int {
	p := n - 1 - stripe%n
	switch column {
	case n - 2:
		return p
	case n - 1:
		return (p + 1) % n
	}
	return (p + 2 + column) % n
}

// build makes an array whose blocks all differ, with parities that fit.
func build(t testing.TB, n, stripes int) *array {
	t.Helper()
	l, e := label.New(geom.Geometry{Members: n, Stripes: stripes})
	if e != api.OK {
		t.Fatal(e)
	}
	a := &array{bay: bay.New(n, 100+stripes), l: l}
	random := rand.New(rand.NewSource(int64(100*n + stripes)))
	for stripe := range stripes {
		var columns []string
		for range n - 2 {
			bytes := make([]byte, 64)
			random.Read(bytes)
			columns = append(columns, string(bytes))
		}
		p, q, e := syndrome.Make(columns)
		if e != api.OK {
			t.Fatal(e)
		}
		columns = append(columns, p, q)
		for column, s := range columns {
			a.bay.Write(memberOf(n, stripe, column), 100+stripe, s)
		}
		a.truth = append(a.truth, columns)
	}
	return a
}

// rot gives a column of a stripe other bytes.
func (a *array) rot(t testing.TB, stripe, column int, s string) {
	t.Helper()
	if !a.bay.Member(memberOf(a.l.Members, stripe, column)).Rot(100+stripe, s) {
		t.Fatalf("the column %d of the stripe %d doesn't rot", column, stripe)
	}
}

// lose makes a stripe's column be lost, in one of four ways.
func (a *array) lose(stripe, column, how int) {
	m := memberOf(a.l.Members, stripe, column)
	switch how % 4 {
	case 0:
		a.bay.Member(m).Fail()
	case 1:
		a.l.States[m], a.l.Marks[m] = label.Failed, 0
	case 2:
		a.l.States[m], a.l.Marks[m] = label.Rebuilding, stripe
	case 3:
		a.bay.Member(m).Fail()
		a.l.States[m], a.l.Marks[m] = label.Failed, 0
	}
}

// reads are how many reads each member of a bay had.
func reads(b *bay.Bay) []int64 {
	var all []int64
	for i := range b.Size() {
		all = append(all, b.Member(i).Counts().Reads)
	}
	return all
}

// fixed is what a reader counts of all kinds.
func fixed(r *Reader) []int64 {
	var all []int64
	for k := range repair.Kinds {
		all = append(all, r.Fixed(k))
	}
	return all
}

// badLabels are labels that aren't good, though most of their geometries are.
func badLabels() map[string]label.Label {
	five := func(change func(l *label.Label)) label.Label {
		l, _ := label.New(geom.Geometry{Members: 5, Stripes: 3})
		change(&l)
		return l
	}
	return map[string]label.Label{
		"none at all":            {},
		"no lists":               five(func(l *label.Label) { l.States, l.Marks = nil, nil }),
		"no epoch":               five(func(l *label.Label) { l.Epoch = 0 }),
		"an epoch too great":     five(func(l *label.Label) { l.Epoch = 9007199254740993 }),
		"the least epoch":        five(func(l *label.Label) { l.Epoch = math.MinInt64 }),
		"three members":          five(func(l *label.Label) { l.Members, l.States, l.Marks = 3, l.States[:3], l.Marks[:3] }),
		"too many members":       five(func(l *label.Label) { l.Members, l.States, l.Marks = 33, make([]label.State, 33), make([]int, 33) }),
		"members unlike lists":   five(func(l *label.Label) { l.Members = 4 }),
		"members below 0":        five(func(l *label.Label) { l.Members = -1 }),
		"the greatest members":   five(func(l *label.Label) { l.Members = math.MaxInt }),
		"no stripes":             five(func(l *label.Label) { l.Stripes = 0 }),
		"too many stripes":       five(func(l *label.Label) { l.Stripes = 65 }),
		"stripes below 0":        five(func(l *label.Label) { l.Stripes = math.MinInt }),
		"too few states":         five(func(l *label.Label) { l.States = l.States[:4] }),
		"too many states":        five(func(l *label.Label) { l.States = append(l.States, label.InSync) }),
		"too few marks":          five(func(l *label.Label) { l.Marks = l.Marks[:4] }),
		"too many marks":         five(func(l *label.Label) { l.Marks = append(l.Marks, 0) }),
		"no such state":          five(func(l *label.Label) { l.States[4] = 3 }),
		"a state below 0":        five(func(l *label.Label) { l.States[0] = -1 }),
		"a mark in sync":         five(func(l *label.Label) { l.Marks[2] = 1 }),
		"a mark of a failed one": five(func(l *label.Label) { l.States[2], l.Marks[2] = label.Failed, 1 }),
		"a mark too great":       five(func(l *label.Label) { l.States[2], l.Marks[2] = label.Rebuilding, 3 }),
		"a mark below 0":         five(func(l *label.Label) { l.States[2], l.Marks[2] = label.Rebuilding, -1 }),
	}
}

// plain is a reader by the chapter's words.
type plain struct {
	bay  *bay.Bay
	kind [repair.Kinds]int64
}

// refused is the error that all calls begin with.
func refused(l label.Label, stripe int) api.Errno {
	switch {
	case !l.Good():
		return api.ErrForm
	case stripe < 0 || stripe >= l.Stripes:
		return api.ErrRange
	}
	return api.OK
}

// has tells if what a label's member has of a stripe is all right.
func has(l label.Label, m, stripe int) bool {
	return l.States[m] == label.InSync || l.States[m] == label.Rebuilding && stripe < l.Marks[m]
}

func plainLost(l label.Label, dead []int, stripe int) ([]int, api.Errno) {
	if e := refused(l, stripe); e != api.OK {
		return nil, e
	}
	var lost []int
	for column := range l.Members {
		m := memberOf(l.Members, stripe, column)
		if slices.Contains(dead, m) || !has(l, m, stripe) {
			lost = append(lost, column)
		}
	}
	return lost, api.OK
}

func (p *plain) gone(l label.Label, stripe int) ([]int, api.Errno) {
	var dead []int
	for i := range p.bay.Size() {
		if p.bay.Member(i).Dead() {
			dead = append(dead, i)
		}
	}
	return plainLost(l, dead, stripe)
}

func (p *plain) read(l label.Label, stripe, column int) (string, api.Errno) {
	return p.bay.Read(memberOf(l.Members, stripe, column), 100+stripe)
}

func (p *plain) load(l label.Label, stripe int) (Row, api.Errno) {
	lost, e := p.gone(l, stripe)
	if e != api.OK {
		return Row{}, e
	}
	if len(lost) > 2 {
		return Row{}, api.ErrFailed
	}
	var columns []string
	for column := range l.Members {
		s, e := "", api.OK
		if !slices.Contains(lost, column) {
			s, e = p.read(l, stripe, column)
		}
		if e != api.OK {
			return Row{}, e
		}
		columns = append(columns, s)
	}
	columns, e = repair.New().Fix(columns, lost)
	if e != api.OK {
		panic(e)
	}
	kind, _ := repair.Sort(l.Members-2, lost)
	p.kind[kind]++
	return Row{Stripe: stripe, Columns: columns, Lost: lost, Kind: kind}, api.OK
}

func (p *plain) one(l label.Label, stripe, column int) (string, api.Errno) {
	lost, e := p.gone(l, stripe)
	if e != api.OK {
		return "", e
	}
	if column < 0 || column > l.Members-3 {
		return "", api.ErrRange
	}
	if !slices.Contains(lost, column) {
		return p.read(l, stripe, column)
	}
	y, e := p.load(l, stripe)
	if e != api.OK {
		return "", e
	}
	return y.Columns[column], api.OK
}

func (p *plain) column(l label.Label, stripe, column int) (string, api.Errno) {
	lost, e := p.gone(l, stripe)
	switch {
	case e != api.OK:
		return "", e
	case column < 0 || column > l.Members-1:
		return "", api.ErrRange
	case slices.Contains(lost, column):
		return "", api.ErrFailed
	}
	return p.read(l, stripe, column)
}

func (p *plain) whole(l label.Label, stripe int) bool {
	lost, e := p.gone(l, stripe)
	if e != api.OK || len(lost) > 0 {
		return false
	}
	var columns []string
	for column := range l.Members {
		s, e := p.read(l, stripe, column)
		if e != api.OK {
			return false
		}
		columns = append(columns, s)
	}
	pp, qq, _ := syndrome.Make(columns[:l.Members-2])
	return columns[l.Members-2] == pp && columns[l.Members-1] == qq
}

func plainWrites(l label.Label, stripe int, columns map[int]string) ([]record.Write, api.Errno) {
	if e := refused(l, stripe); e != api.OK {
		return nil, e
	}
	var all []record.Write
	left := maps.Clone(columns)
	for len(left) > 0 {
		least := math.MaxInt
		for column := range left {
			least = min(least, column)
		}
		s := left[least]
		delete(left, least)
		if least < 0 || least > l.Members-1 {
			return nil, api.ErrRange
		}
		if len(s) != 64 {
			return nil, api.ErrArg
		}
		if m := memberOf(l.Members, stripe, least); has(l, m, stripe) {
			all = append(all, record.Write{Member: m, Stripe: stripe, Data: s})
		}
	}
	return all, api.OK
}

// sameRow tells if two rows are alike.
func sameRow(a, b Row) bool {
	return a.Stripe == b.Stripe && slices.Equal(a.Columns, b.Columns) && slices.Equal(a.Lost, b.Lost) && a.Kind == b.Kind
}

// loads holds what Load answers against the array's own columns.
func loads(t *testing.T, r *Reader, a *array, stripe int, lost []int, kind repair.Kind) {
	t.Helper()
	y, e := r.Load(a.l, stripe)
	if want := (Row{stripe, a.truth[stripe], lost, kind}); e != api.OK || !sameRow(y, want) {
		t.Fatalf("Load(%d): %#v, %d; want %#v", stripe, y, e, want)
	}
}

// refuses holds what the calls of a reader answer with which Load, One, Column and Gone have one error.
func refuses(t *testing.T, r *Reader, l label.Label, stripe, column int, want api.Errno) {
	t.Helper()
	if y, e := r.Load(l, stripe); e != want || !reflect.ValueOf(y).IsZero() {
		t.Errorf("Load(%v, %d): %#v, %d; want %d", l, stripe, y, e, want)
	}
	if s, e := r.One(l, stripe, column); e != want || s != "" {
		t.Errorf("One(%v, %d, %d): %q, %d; want %d", l, stripe, column, s, e, want)
	}
	if s, e := r.Column(l, stripe, column); e != want || s != "" {
		t.Errorf("Column(%v, %d, %d): %q, %d; want %d", l, stripe, column, s, e, want)
	}
	if g, e := r.Gone(l, stripe); e != want || len(g) != 0 {
		t.Errorf("Gone(%v, %d): %v, %d; want %d", l, stripe, g, e, want)
	}
	if r.Whole(l, stripe) {
		t.Errorf("Whole(%v, %d), though the others are %d", l, stripe, want)
	}
}

func TestExample(t *testing.T) {
	a := build(t, 5, 3)
	a.bay.Member(1).Fail()
	r := New(a.bay)
	loads(t, r, a, 0, []int{0}, repair.OneData)
	if y, _ := r.Load(a.l, 0); y.Kind.Name() != "data" {
		t.Errorf("the kind %q", y.Kind.Name())
	}
}

func TestNilP16_1(t *testing.T) {
	if r := New(nil); r != nil {
		t.Errorf("New(nil): %v", r)
	}
	var r *Reader
	l := build(t, 5, 3).l
	for _, x := range []struct {
		l              label.Label
		stripe, column int
	}{{l, 0, 0}, {l, 3, 0}, {l, 0, 9}, {label.Label{}, -1, -1}} {
		refuses(t, r, x.l, x.stripe, x.column, api.ErrNil)
	}
	for _, k := range ints {
		if n := r.Fixed(repair.Kind(k)); n != 0 {
			t.Errorf("Fixed(%d) of a nil reader: %d", k, n)
		}
	}
}

// TestNewP16_1: nothing is asked of the bay, and a fixer counts for one reader alone.
func TestNewP16_1(t *testing.T) {
	a := build(t, 5, 3)
	a.bay.Member(2).Fail()
	steps, before := a.bay.Steps(), reads(a.bay)
	r, other := New(a.bay), New(a.bay)
	if a.bay.Steps() != steps || !slices.Equal(reads(a.bay), before) {
		t.Error("New has asked something of the bay")
	}
	if sum := fixed(r); !slices.Equal(sum, make([]int64, repair.Kinds)) {
		t.Errorf("a new reader has fixed %v", sum)
	}
	loads(t, r, a, 0, []int{1}, repair.OneData)
	if r.Fixed(repair.OneData) != 1 || other.Fixed(repair.OneData) != 0 {
		t.Errorf("fixed %d, and %d by another reader of the bay", r.Fixed(repair.OneData), other.Fixed(repair.OneData))
	}
	loads(t, other, a, 1, []int{2}, repair.OneData)
	loads(t, other, a, 2, []int{3}, repair.OnlyP)
	if r.Fixed(repair.OneData) != 1 || r.Fixed(repair.OnlyP) != 0 || other.Fixed(repair.OneData) != 1 {
		t.Error("what another reader does is counted")
	}
}

func TestFormP16_1(t *testing.T) {
	a := build(t, 5, 3)
	r := New(a.bay)
	before := reads(a.bay)
	for name, l := range badLabels() {
		for _, stripe := range []int{0, 2, 3, -1, math.MinInt, math.MaxInt} {
			t.Run(name, func(t *testing.T) {
				refuses(t, r, l, stripe, 0, api.ErrForm)
				refuses(t, r, l, stripe, 99, api.ErrForm)
				if g, e := Lost(l, []int{0, 1, 2, 3}, stripe); e != api.ErrForm || len(g) != 0 {
					t.Errorf("Lost: %v, %d", g, e)
				}
				for _, columns := range []map[int]string{nil, {0: full('a')}, {0: ""}, {-1: full('a')}} {
					if w, e := Writes(l, stripe, columns); e != api.ErrForm || len(w) != 0 {
						t.Errorf("Writes: %#v, %d", w, e)
					}
				}
			})
		}
	}
	if !slices.Equal(reads(a.bay), before) {
		t.Error("something was read")
	}
}

func TestStripeP16_1(t *testing.T) {
	for _, stripes := range []int{1, 5, 64} {
		a := build(t, 5, stripes)
		r := New(a.bay)
		for _, stripe := range ints {
			if 0 <= stripe && stripe < stripes {
				loads(t, r, a, stripe, nil, repair.Whole)
				continue
			}
			refuses(t, r, a.l, stripe, 0, api.ErrRange)
			if g, e := Lost(a.l, []int{0, 1, 2, 3}, stripe); e != api.ErrRange || len(g) != 0 {
				t.Errorf("Lost: %v, %d", g, e)
			}
			for _, columns := range []map[int]string{nil, {0: full('a')}, {0: ""}} {
				if w, e := Writes(a.l, stripe, columns); e != api.ErrRange || len(w) != 0 {
					t.Errorf("Writes: %#v, %d", w, e)
				}
			}
		}
	}
}

// anyLabel is a good label of some states.
func anyLabel(random *rand.Rand) label.Label {
	g := geom.Geometry{Members: 4 + random.Intn(4), Stripes: 1 + random.Intn(12)}
	switch random.Intn(8) {
	case 0:
		g.Members = 32
	case 1:
		g.Stripes = 64
	}
	l, _ := label.New(g)
	for m := range l.Members {
		switch random.Intn(6) {
		case 0:
			l.States[m] = label.Failed
		case 1, 2:
			l.States[m], l.Marks[m] = label.Rebuilding, random.Intn(l.Stripes)
		}
	}
	return l
}

func TestLostP16_1(t *testing.T) {
	random := rand.New(rand.NewSource(16))
	for range 2000 {
		l := anyLabel(random)
		var dead []int
		for range random.Intn(6) {
			dead = append(dead, random.Intn(l.Members))
		}
		for range random.Intn(3) {
			dead = append(dead, ints[random.Intn(len(ints))])
		}
		stripe := random.Intn(l.Stripes)
		g, e := Lost(l, dead, stripe)
		if want, f := plainLost(l, dead, stripe); !slices.Equal(g, want) || e != f {
			t.Fatalf("Lost(%v, %v, %d): %v, %d; want %v, %d", l, dead, stripe, g, e, want, f)
		}
	}
}

// TestLostByTheStripeP16_1: what a member is lost for, by the chapters' own numbers.
func TestLostByTheStripeP16_1(t *testing.T) {
	l := build(t, 5, 7).l
	l.States[0] = label.Failed
	l.States[4], l.Marks[4] = label.Rebuilding, 2
	for _, x := range []struct {
		dead   []int
		stripe int
		want   []int
	}{
		// The stripes lie on 1 2 3 4 0, on 0 1 2 3 4, on 4 0 1 2 3, on 3 4 0 1 2, on 2 3 4 0 1, and from there on again.
		{nil, 0, []int{4}},
		{nil, 1, []int{0}},
		{nil, 2, []int{0, 1}},
		{nil, 3, []int{1, 2}},
		{nil, 5, []int{3, 4}},
		{nil, 6, []int{0, 4}},
		{[]int{0}, 0, []int{4}},
		{[]int{3}, 0, []int{2, 4}},
		{[]int{4, 3, 4, 1}, 1, []int{0, 1, 3, 4}},
		{[]int{4, 3, 2, 1, 0}, 4, []int{0, 1, 2, 3, 4}},
		{[]int{5, -1, 6, 256, math.MinInt, math.MaxInt}, 1, []int{0}},
		{[]int{256 + 1, 64 + 1, 1 << 32, -255}, 1, []int{0}},
	} {
		if g, e := Lost(l, x.dead, x.stripe); !slices.Equal(g, x.want) || e != api.OK {
			t.Errorf("Lost(%v, %d): %v, %d; want %v", x.dead, x.stripe, g, e, x.want)
		}
	}
}

// TestMarkP16_1: a Rebuilding member has the stripes below its Mark, and no other one.
func TestMarkP16_1(t *testing.T) {
	l := build(t, 4, 64).l
	l.States[2] = label.Rebuilding
	for _, mark := range []int{0, 1, 31, 63} {
		l.Marks[2] = mark
		for stripe := range 64 {
			g, _ := Lost(l, nil, stripe)
			w, _ := Writes(l, stripe, map[int]string{0: full('a'), 1: full('b'), 2: full('c'), 3: full('d')})
			if isLost := stripe >= mark; isLost != (len(g) == 1) || isLost != (len(w) == 3) {
				t.Errorf("mark %d, stripe %d: lost %v, %d writes", mark, stripe, g, len(w))
			}
		}
	}
}

// TestLostListsP16_1: what is handed in stays, and what is answered is new.
func TestLostListsP16_1(t *testing.T) {
	l := build(t, 5, 3).l
	l.States[3] = label.Failed
	same := l.Copy()
	behind := []int{4, 1, 2, 0}
	first, _ := Lost(l, behind[:2], 0)
	second, _ := Lost(l, behind[:2], 0)
	if want := []int{0, 2, 3}; !slices.Equal(first, want) {
		t.Errorf("lost %v: what lies behind the list counts", first)
	}
	for i := range first {
		first[i] = 77
	}
	first = append(first[:1], 55, 55, 55, 55, 55)
	if want := []int{0, 2, 3}; !slices.Equal(second, want) {
		t.Errorf("an answer shares its memory with another one: %v", second)
	}
	if !slices.Equal(behind, []int{4, 1, 2, 0}) || !reflect.DeepEqual(l, same) {
		t.Errorf("handed in: %v, %v", behind, l)
	}
	if g, e := Lost(same, []int{}, 0); len(g) != 1 || e != api.OK {
		t.Errorf("of an empty list: %v, %d", g, e)
	}
}

func TestGoneP16_1(t *testing.T) {
	a := build(t, 5, 7)
	r := New(a.bay)
	holds := func(stripe int, want ...int) {
		t.Helper()
		if g, e := r.Gone(a.l, stripe); !slices.Equal(g, want) || e != api.OK {
			t.Errorf("Gone(%d): %v, %d; want %v", stripe, g, e, want)
		}
	}
	holds(0)
	a.bay.Member(1).Fail()
	holds(0, 0)
	holds(1, 1)
	a.bay.Member(4).Fail()
	holds(0, 0, 3)
	a.l.States[0] = label.Failed
	holds(0, 0, 3, 4)
	a.bay.Cut(0)
	holds(0, 0, 3, 4)
	a.bay.Crash()
	a.bay.Member(4).Replace()
	holds(0, 0, 4)
	a.l.States[4], a.l.Marks[4] = label.Rebuilding, 1
	holds(0, 0, 4)
	holds(1, 0, 1, 4)
	for i := range 5 {
		a.bay.Member(i).Fail()
	}
	holds(3, 0, 1, 2, 3, 4)
	if before := reads(a.bay); !slices.Equal(before, make([]int64, 5)) {
		t.Errorf("reads: %v", before)
	}
}

// TestOtherBaysP16_1: a bay may have more members than the label, or fewer; those that aren't there aren't dead.
func TestOtherBaysP16_1(t *testing.T) {
	l := build(t, 5, 3).l
	large, small := bay.New(9, 103), bay.New(3, 103)
	large.Member(6).Fail()
	large.Member(3).Fail()
	if g, e := New(large).Gone(l, 0); !slices.Equal(g, []int{2}) || e != api.OK {
		t.Errorf("Gone of nine members: %v, %d", g, e)
	}
	small.Member(0).Fail()
	if g, e := New(small).Gone(l, 0); !slices.Equal(g, []int{4}) || e != api.OK {
		t.Errorf("Gone of three members: %v, %d", g, e)
	}
}

// TestAnyTwoP16_2: whichever columns are lost, and by what, all are told as they were.
func TestAnyTwoP16_2(t *testing.T) {
	for _, n := range []int{4, 5, 6, 9, 32} {
		stripes := []int{0, 1, n - 1, n, 2*n - 1}
		for how := range 16 {
			for i := range n {
				for j := i; j < n; j++ {
					if n > 9 && (i*7+j+how)%37 != 0 && j < n-2 {
						continue
					}
					stripe := stripes[(i+j+how)%len(stripes)] % 64
					checkLost(t, n, stripe, i, j, how)
				}
			}
		}
	}
}

// kindOf is the kind of one or two lost columns, by the words of layer 5's chapter.
func kindOf(k int, lost []int) repair.Kind {
	p, q := slices.Contains(lost, k), slices.Contains(lost, k+1)
	switch {
	case len(lost) == 0:
		return repair.Whole
	case p && q:
		return repair.Parities
	case p && len(lost) == 2:
		return repair.DataP
	case q && len(lost) == 2:
		return repair.DataQ
	case p:
		return repair.OnlyP
	case q:
		return repair.OnlyQ
	case len(lost) == 2:
		return repair.TwoData
	}
	return repair.OneData
}

// checkLost loads a stripe of which one or two columns are lost.
func checkLost(t *testing.T, n, stripe, i, j, how int) {
	t.Helper()
	a := build(t, n, stripe+1)
	a.lose(stripe, i, how)
	a.lose(stripe, j, how/4)
	// What stands in the place of a lost column counts for nothing.
	a.bay.Member(memberOf(n, stripe, i)).Rot(100+stripe, full(0x5a))
	a.bay.Member(memberOf(n, stripe, j)).Rot(100+stripe, full(0xa5))
	lost := slices.Compact([]int{i, j})
	r := New(a.bay)
	loads(t, r, a, stripe, lost, kindOf(n-2, lost))
	for m, count := range reads(a.bay) {
		want := int64(1)
		if m == memberOf(n, stripe, i) || m == memberOf(n, stripe, j) {
			want = 0
		}
		if count != want {
			t.Fatalf("%d members, lost %v of the stripe %d: member %d was read %d times", n, lost, stripe, m, count)
		}
	}
	if r.Whole(a.l, stripe) {
		t.Fatalf("%d members, lost %v of the stripe %d: whole", n, lost, stripe)
	}
}

// TestMoreThanTwoP16_2: of three lost columns nothing is read, whatever else is wrong.
func TestMoreThanTwoP16_2(t *testing.T) {
	for _, off := range []bool{false, true} {
		a := build(t, 6, 8)
		r := New(a.bay)
		if off {
			a.bay.Cut(0)
		}
		a.lose(3, 0, 0)
		a.lose(3, 2, 1)
		a.lose(3, 5, 2)
		if y, e := r.Load(a.l, 3); e != api.ErrFailed || !reflect.ValueOf(y).IsZero() {
			t.Errorf("off %v: %#v, %d", off, y, e)
		}
		a.lose(3, 4, 3)
		a.lose(3, 1, 0)
		a.lose(3, 3, 0)
		if y, e := r.Load(a.l, 3); e != api.ErrFailed || !reflect.ValueOf(y).IsZero() {
			t.Errorf("of all, off %v: %#v, %d", off, y, e)
		}
		if !slices.Equal(reads(a.bay), make([]int64, 6)) || !slices.Equal(fixed(r), make([]int64, repair.Kinds)) {
			t.Errorf("off %v: reads %v, fixed %v", off, reads(a.bay), fixed(r))
		}
	}
}

// TestReadErrorsP16_2: columns are read in order, up to the bay's first error, which is told.
func TestReadErrorsP16_2(t *testing.T) {
	l := build(t, 5, 3).l
	// The stripe 0 lies on 1 2 3 4 0, the stripe 1 on 0 1 2 3 4.
	for _, x := range []struct {
		members, sectors, stripe int
		failed                   []int
		want                     api.Errno
		reads                    []int64
	}{
		{5, 100, 0, nil, api.ErrRange, []int64{0, 0, 0, 0, 0}},
		{5, 101, 1, nil, api.ErrRange, []int64{0, 0, 0, 0, 0}},
		{5, 101, 0, nil, api.OK, []int64{1, 1, 1, 1, 1}},
		{4, 103, 0, nil, api.ErrNone, []int64{0, 1, 1, 1}},
		{4, 103, 1, nil, api.ErrNone, []int64{1, 1, 1, 1}},
		{2, 103, 0, nil, api.ErrNone, []int64{0, 1}},
		{1, 103, 0, nil, api.ErrNone, []int64{0}},
		{3, 103, 1, nil, api.ErrNone, []int64{1, 1, 1}},
		{3, 103, 1, []int{3, 4}, api.OK, []int64{1, 1, 1}},
		{3, 103, 1, []int{0, 1}, api.ErrNone, []int64{0, 0, 1}},
		{3, 100, 1, []int{0, 1}, api.ErrRange, []int64{0, 0, 0}},
		{3, 100, 1, []int{0, 1, 2}, api.ErrFailed, []int64{0, 0, 0}},
		{6, 103, 1, nil, api.OK, []int64{1, 1, 1, 1, 1, 0}},
	} {
		b, m := bay.New(x.members, x.sectors), l.Copy()
		for _, i := range x.failed {
			m.States[i] = label.Failed
		}
		y, e := New(b).Load(m, x.stripe)
		if e != x.want || e != api.OK && !reflect.ValueOf(y).IsZero() || !slices.Equal(reads(b), x.reads) {
			t.Errorf("%v: %#v, %d, reads %v", x, y, e, reads(b))
		}
	}
}

func TestPowerP16_2(t *testing.T) {
	a := build(t, 5, 3)
	r := New(a.bay)
	a.bay.Cut(1)
	loads(t, r, a, 0, nil, repair.Whole)
	before, steps := reads(a.bay), a.bay.Steps()
	a.bay.Cut(0)
	for _, column := range []int{0, 1, 2} {
		if s, e := r.One(a.l, 0, column); s != "" || e != api.ErrPower {
			t.Errorf("One: %q, %d", s, e)
		}
		if s, e := r.Column(a.l, 0, column+2); s != "" || e != api.ErrPower {
			t.Errorf("Column: %q, %d", s, e)
		}
	}
	if y, e := r.Load(a.l, 0); e != api.ErrPower || !reflect.ValueOf(y).IsZero() || r.Whole(a.l, 0) {
		t.Errorf("Load: %#v, %d", y, e)
	}
	if !slices.Equal(reads(a.bay), before) || a.bay.Steps() != steps || r.Fixed(repair.Whole) != 1 {
		t.Errorf("reads %v, steps %d, fixed %v", reads(a.bay), a.bay.Steps(), fixed(r))
	}
	// Of a lost column it is One's Load that finds no power, and Column doesn't come so far.
	a.lose(0, 1, 0)
	if s, e := r.One(a.l, 0, 1); s != "" || e != api.ErrPower {
		t.Errorf("One of a lost column: %q, %d", s, e)
	}
	if s, e := r.Column(a.l, 0, 1); s != "" || e != api.ErrFailed {
		t.Errorf("Column of a lost one: %q, %d", s, e)
	}
	if s, e := r.One(a.l, 0, 3); s != "" || e != api.ErrRange {
		t.Errorf("One of P: %q, %d", s, e)
	}
	if s, e := r.Column(a.l, 0, 5); s != "" || e != api.ErrRange {
		t.Errorf("Column of none: %q, %d", s, e)
	}
	if g, e := r.Gone(a.l, 0); !slices.Equal(g, []int{1}) || e != api.OK {
		t.Errorf("Gone: %v, %d", g, e)
	}
}

// TestUnfitP16_2: what isn't lost is told as its member has it, also where the parities don't fit it.
func TestUnfitP16_2(t *testing.T) {
	a := build(t, 5, 3)
	r := New(a.bay)
	a.truth[1][3] = full('p')
	a.rot(t, 1, 3, full('p'))
	loads(t, r, a, 1, nil, repair.Whole)
	a.lose(1, 4, 1)
	loads(t, r, a, 1, []int{4}, repair.OnlyQ)
	a.lose(1, 1, 0)
	// The data column is brought back by P, and Q made anew of it.
	bytes := []byte(full('p'))
	for i := range bytes {
		bytes[i] ^= a.truth[1][0][i] ^ a.truth[1][2][i]
	}
	a.truth[1][1] = string(bytes)
	_, a.truth[1][4], _ = syndrome.Make(a.truth[1][:3])
	loads(t, r, a, 1, []int{1, 4}, repair.DataQ)
}

// TestRowListsP16_2: a row's lists are its own.
func TestRowListsP16_2(t *testing.T) {
	a := build(t, 5, 3)
	r := New(a.bay)
	a.lose(0, 1, 0)
	a.lose(0, 4, 1)
	same := a.l.Copy()
	first, _ := r.Load(a.l, 0)
	second, _ := r.Load(a.l, 0)
	for i := range first.Columns {
		first.Columns[i] = ""
	}
	for i := range first.Lost {
		first.Lost[i] = 99
	}
	if want := (Row{0, a.truth[0], []int{1, 4}, repair.DataQ}); !sameRow(second, want) {
		t.Errorf("a row shares lists with another one: %#v", second)
	}
	loads(t, r, a, 0, []int{1, 4}, repair.DataQ)
	if !reflect.DeepEqual(a.l, same) {
		t.Errorf("the label is %v now", a.l)
	}
}

func TestOneP16_3(t *testing.T) {
	a := build(t, 6, 7)
	r := New(a.bay)
	a.lose(2, 1, 0)
	a.lose(2, 5, 1)
	for _, column := range ints {
		before, s, want := reads(a.bay), "", api.ErrRange
		if 0 <= column && column < 4 {
			s, want = a.truth[2][column], api.OK
		}
		got, e := r.One(a.l, 2, column)
		if got != s || e != want {
			t.Fatalf("One(2, %d): %q, %d; want %q, %d", column, got, e, s, want)
		}
		sum := int64(0)
		for m, count := range reads(a.bay) {
			sum += count - before[m]
		}
		if just := map[int]int64{0: 1, 1: 4, 2: 1, 3: 1}[column]; sum != just {
			t.Errorf("One(2, %d) reads %d columns, want %d", column, sum, just)
		}
	}
	if r.Fixed(repair.DataQ) != 1 || r.Fixed(repair.Whole) != 0 {
		t.Errorf("fixed %v: of a column that is read alone nothing is loaded", fixed(r))
	}
}

// TestOneAndOthersP16_3: a column that is there is had of its member alone, whatever became of the others.
func TestOneAndOthersP16_3(t *testing.T) {
	a := build(t, 6, 7)
	r := New(a.bay)
	for column := range 6 {
		if column != 2 {
			a.lose(4, column, column)
		}
	}
	if s, e := r.One(a.l, 4, 2); s != a.truth[4][2] || e != api.OK {
		t.Errorf("One: %q, %d", s, e)
	}
	if s, e := r.Column(a.l, 4, 2); s != a.truth[4][2] || e != api.OK {
		t.Errorf("Column: %q, %d", s, e)
	}
	for _, column := range []int{0, 1, 3, 4, 5} {
		if s, e := r.Column(a.l, 4, column); s != "" || e != api.ErrFailed {
			t.Errorf("Column(%d): %q, %d", column, s, e)
		}
		want := api.ErrFailed
		if column > 3 {
			want = api.ErrRange
		}
		if s, e := r.One(a.l, 4, column); s != "" || e != want {
			t.Errorf("One(%d): %q, %d", column, s, e)
		}
	}
	// It is told as it is there, not as the others would have it.
	b := build(t, 6, 7)
	b.rot(t, 4, 2, full('r'))
	if s, e := New(b.bay).One(b.l, 4, 2); s != full('r') || e != api.OK {
		t.Errorf("One of other bytes: %q, %d", s, e)
	}
}

// TestOneErrorsP16_3: the bay's error is told of a column that is read alone, and Load's of a lost one.
func TestOneErrorsP16_3(t *testing.T) {
	l := build(t, 5, 3).l
	r := New(bay.New(3, 101))
	// The stripe 0 lies on 1 2 3 4 0, the stripe 1 on 0 1 2 3 4.
	for _, x := range []struct {
		stripe, column int
		failed         []int
		one, alone     api.Errno
	}{
		{0, 0, nil, api.OK, api.OK},
		{0, 2, nil, api.ErrNone, api.ErrNone},
		{0, 3, nil, api.ErrRange, api.ErrNone},
		{0, 4, nil, api.ErrRange, api.OK},
		{1, 0, nil, api.ErrRange, api.ErrRange},
		{1, 3, nil, api.ErrRange, api.ErrNone},
		{0, 0, []int{1}, api.ErrNone, api.ErrFailed},
		{0, 2, []int{3}, api.ErrNone, api.ErrFailed},
		{0, 2, []int{3, 4}, api.OK, api.ErrFailed},
		{0, 2, []int{3, 4, 0}, api.ErrFailed, api.ErrFailed},
		{1, 1, []int{1}, api.ErrRange, api.ErrFailed},
	} {
		m := l.Copy()
		for _, i := range x.failed {
			m.States[i] = label.Failed
		}
		want := map[bool]string{true: full(0)}
		if s, e := r.One(m, x.stripe, x.column); e != x.one || s != want[e == api.OK] {
			t.Errorf("%v: One: %q, %d", x, s, e)
		}
		if s, e := r.Column(m, x.stripe, x.column); e != x.alone || s != want[e == api.OK] {
			t.Errorf("%v: Column: %q, %d", x, s, e)
		}
	}
}

func TestColumnP16_3(t *testing.T) {
	for _, n := range []int{4, 5, 32} {
		a := build(t, n, 9)
		r := New(a.bay)
		a.lose(8, n-1, 2)
		a.lose(8, 1, 0)
		for _, column := range ints {
			before, s, want, sum := reads(a.bay), "", api.ErrRange, int64(0)
			switch {
			case column == 1 || column == n-1:
				want = api.ErrFailed
			case 0 <= column && column < n:
				s, want, sum = a.truth[8][column], api.OK, 1
				before[memberOf(n, 8, column)]++
			}
			got, e := r.Column(a.l, 8, column)
			if got != s || e != want {
				t.Fatalf("%d members: Column(8, %d): %q, %d; want %q, %d", n, column, got, e, s, want)
			}
			if !slices.Equal(reads(a.bay), before) {
				t.Errorf("%d members: Column(8, %d) reads %v, want %v, %d more", n, column, reads(a.bay), before, sum)
			}
		}
		if !slices.Equal(fixed(r), make([]int64, repair.Kinds)) {
			t.Errorf("fixed %v", fixed(r))
		}
	}
}

func TestWholeP16_3(t *testing.T) {
	for _, n := range []int{4, 7, 32} {
		a := build(t, n, 9)
		r := New(a.bay)
		for stripe := range 9 {
			if !r.Whole(a.l, stripe) {
				t.Errorf("%d members: the stripe %d isn't whole", n, stripe)
			}
		}
		if !slices.Equal(fixed(r), make([]int64, repair.Kinds)) {
			t.Errorf("Whole counts as a Load: %v", fixed(r))
		}
		for column := range n {
			bytes := []byte(a.truth[5][column])
			bytes[63] ^= 1
			a.rot(t, 5, column, string(bytes))
			if r.Whole(a.l, 5) || !r.Whole(a.l, 4) || !r.Whole(a.l, 6) {
				t.Errorf("%d members: with the column %d of other bytes: %v", n, column, r.Whole(a.l, 5))
			}
			a.rot(t, 5, column, a.truth[5][column])
			for how := range 3 {
				b := build(t, n, 9)
				b.lose(5, column, how)
				if x := New(b.bay); x.Whole(b.l, 5) || !slices.Equal(reads(b.bay), make([]int64, n)) {
					t.Errorf("%d members: with the column %d lost (%d): %v", n, column, how, reads(b.bay))
				}
			}
		}
		if !r.Whole(a.l, 5) {
			t.Errorf("%d members: not whole again", n)
		}
	}
}

// TestWholeErrorsP16_3: a stripe isn't whole that can't be read, though nothing is dead.
func TestWholeErrorsP16_3(t *testing.T) {
	l := build(t, 5, 3).l
	for _, x := range []struct {
		members, sectors, stripe int
		want                     bool
	}{
		{5, 103, 2, true}, // noughts, whose parities are noughts
		{5, 102, 2, false},
		{5, 102, 1, true},
		{4, 103, 0, false},
		{1, 103, 0, false},
		{32, 103, 2, true},
		{5, 103, 3, false},
		{5, 103, -1, false},
		{5, 103, math.MaxInt, false},
	} {
		if got := New(bay.New(x.members, x.sectors)).Whole(l, x.stripe); got != x.want {
			t.Errorf("%v: %v", x, got)
		}
	}
}

// TestFixedP16_3: Loads that were OK are counted by their kinds, those of One among them.
func TestFixedP16_3(t *testing.T) {
	for i := range 6 {
		for j := i; j < 6; j++ {
			a := build(t, 6, 7)
			r := New(a.bay)
			want := make([]int64, repair.Kinds)
			loads(t, r, a, 3, nil, repair.Whole)
			want[repair.Whole]++
			a.lose(3, i, i)
			a.lose(3, j, i+j)
			lost := slices.Compact([]int{i, j})
			kind := kindOf(4, lost)
			for range 3 {
				loads(t, r, a, 3, lost, kind)
				want[kind]++
			}
			for column := range 4 {
				r.One(a.l, 3, column)
				r.Column(a.l, 3, column)
				r.Whole(a.l, 3)
				r.Gone(a.l, 3)
				if slices.Contains(lost, column) {
					want[kind]++
				}
			}
			// None of these is OK.
			r.Load(a.l, 7)
			r.Load(label.Label{}, 3)
			r.One(a.l, 3, 4)
			a.bay.Cut(0)
			r.Load(a.l, 3)
			r.One(a.l, 3, i)
			if got := fixed(r); !slices.Equal(got, want) {
				t.Errorf("lost %v: fixed %v, want %v", lost, got, want)
			}
			for _, k := range ints {
				if n := r.Fixed(repair.Kind(k)); n != 0 && (k < 0 || k >= 8) {
					t.Errorf("Fixed(%d): %d", k, n)
				}
			}
		}
	}
}

func TestWritesP16_4(t *testing.T) {
	l := build(t, 5, 7).l
	l.States[1] = label.Failed
	l.States[4], l.Marks[4] = label.Rebuilding, 2
	a, b, c, d, e := full('a'), full('b'), full('c'), full('d'), full('e')
	all := map[int]string{4: e, 0: a, 3: d, 1: b, 2: c}
	for _, x := range []struct {
		stripe  int
		columns map[int]string
		want    []record.Write
	}{
		{0, nil, nil},
		{0, map[int]string{}, nil},
		// The stripe 0 lies on 1 2 3 4 0, the next ones on 0 1 2 3 4, on 4 0 1 2 3, on 3 4 0 1 2.
		{0, all, []record.Write{{Member: 2, Stripe: 0, Data: b}, {Member: 3, Stripe: 0, Data: c}, {Member: 4, Stripe: 0, Data: d}, {Member: 0, Stripe: 0, Data: e}}},
		{1, all, []record.Write{{Member: 0, Stripe: 1, Data: a}, {Member: 2, Stripe: 1, Data: c}, {Member: 3, Stripe: 1, Data: d}, {Member: 4, Stripe: 1, Data: e}}},
		{2, all, []record.Write{{Member: 0, Stripe: 2, Data: b}, {Member: 2, Stripe: 2, Data: d}, {Member: 3, Stripe: 2, Data: e}}},
		{3, all, []record.Write{{Member: 3, Stripe: 3, Data: a}, {Member: 0, Stripe: 3, Data: c}, {Member: 2, Stripe: 3, Data: e}}},
		{2, map[int]string{0: a}, nil},
		{2, map[int]string{2: a, 0: b}, nil},
		{6, map[int]string{3: d, 0: a}, []record.Write{{Member: 0, Stripe: 6, Data: a}, {Member: 3, Stripe: 6, Data: d}}},
	} {
		if w, e := Writes(l, x.stripe, x.columns); e != api.OK || !slices.Equal(w, x.want) {
			t.Errorf("Writes(%d, %d columns): %v, %d; want %v", x.stripe, len(x.columns), w, e, x.want)
		}
	}
}

// TestWritesErrorsP16_4: the first column that is wrong says what is wrong.
func TestWritesErrorsP16_4(t *testing.T) {
	l := build(t, 5, 3).l
	a := full('a')
	for _, x := range []struct {
		columns map[int]string
		want    api.Errno
	}{
		{map[int]string{5: a}, api.ErrRange},
		{map[int]string{-1: a}, api.ErrRange},
		{map[int]string{math.MinInt: a}, api.ErrRange},
		{map[int]string{math.MaxInt: a}, api.ErrRange},
		{map[int]string{1 << 32: a}, api.ErrRange},
		{map[int]string{0: ""}, api.ErrArg},
		{map[int]string{4: a[1:]}, api.ErrArg},
		{map[int]string{4: a + "a"}, api.ErrArg},
		{map[int]string{2: a + a}, api.ErrArg},
		{map[int]string{5: ""}, api.ErrRange},
		{map[int]string{-1: a + "a"}, api.ErrRange},
		{map[int]string{0: "", 5: a}, api.ErrArg},
		{map[int]string{0: "", 5: ""}, api.ErrArg},
		{map[int]string{0: "", -1: a}, api.ErrRange},
		{map[int]string{0: "", -1: ""}, api.ErrRange},
		{map[int]string{0: a, 1: a, 2: a, 3: a, 4: "", 5: a}, api.ErrArg},
		{map[int]string{0: a, 1: a, 2: a, 3: a, 4: a, 5: a}, api.ErrRange},
		{map[int]string{0: a, 1: "", 2: a, 3: a, 4: a, -7: a}, api.ErrRange},
	} {
		for _, state := range []label.State{label.InSync, label.Failed, label.Rebuilding} {
			// A column that wouldn't be written is looked at as well.
			m := l.Copy()
			for i := range m.States {
				m.States[i] = state
			}
			if w, e := Writes(m, 1, x.columns); e != x.want || len(w) != 0 {
				t.Errorf("Writes(%v), all of the state %d: %v, %d; want %d", x.columns, state, w, e, x.want)
			}
		}
	}
}

// anyColumns are some columns, seldom wrong ones.
func anyColumns(random *rand.Rand, n int) map[int]string {
	columns := map[int]string{}
	for range random.Intn(n + 2) {
		columns[random.Intn(n)] = full(byte(random.Intn(256)))
	}
	if random.Intn(4) == 0 {
		columns[ints[random.Intn(len(ints))]] = full('x')
	}
	if random.Intn(4) == 0 {
		columns[random.Intn(n)] = full('y')[random.Intn(64):] + "yy"
	}
	return columns
}

func TestAnyWritesP16_4(t *testing.T) {
	random := rand.New(rand.NewSource(164))
	for range 3000 {
		l := anyLabel(random)
		columns, stripe := anyColumns(random, l.Members), random.Intn(l.Stripes)
		w, e := Writes(l, stripe, columns)
		if want, f := plainWrites(l, stripe, columns); !slices.Equal(w, want) || e != f {
			t.Fatalf("Writes(%v, %d, %#v): %#v, %d; want %#v, %d", l, stripe, columns, w, e, want, f)
		}
	}
}

// TestWritesListsP16_4: what is handed in stays, and what is answered is new.
func TestWritesListsP16_4(t *testing.T) {
	l := build(t, 5, 3).l
	l.States[1] = label.Failed
	same := l.Copy()
	columns := map[int]string{0: full('a'), 3: full('b'), 4: full('c')}
	kept := maps.Clone(columns)
	first, _ := Writes(l, 1, columns)
	second, _ := Writes(l, 1, columns)
	for i := range first {
		first[i] = record.Write{}
	}
	if want, _ := plainWrites(l, 1, columns); !slices.Equal(second, want) {
		t.Errorf("an answer shares its memory with another one: %v", second)
	}
	if !maps.Equal(columns, kept) || !reflect.DeepEqual(l, same) {
		t.Errorf("handed in: %v, %v", columns, l)
	}
}

// TestWrittenP16_4: what Writes tells, written to the bay, is what is loaded then, two lost columns among it.
func TestWrittenP16_4(t *testing.T) {
	for i := range 6 {
		for j := range 6 {
			a := build(t, 6, 7)
			a.lose(4, i, 1)
			a.lose(4, j, 2)
			data := []string{full('w'), full('x'), full('y'), full('z')}
			p, q, _ := syndrome.Make(data)
			columns := map[int]string{}
			a.truth[4] = append(data, p, q)
			for column, s := range a.truth[4] {
				columns[column] = s
			}
			w, e := Writes(a.l, 4, columns)
			if e != api.OK {
				t.Fatal(e)
			}
			for _, x := range w {
				a.bay.Write(x.Member, 100+x.Stripe, x.Data)
			}
			lost := slices.Compact([]int{min(i, j), max(i, j)})
			loads(t, New(a.bay), a, 4, lost, kindOf(4, lost))
		}
	}
}

// both is a reader and the plain one, each with a bay of its own, to which a script does the same.
type both struct {
	script []byte
	l      label.Label
	r      *Reader
	p      *plain
}

// next is a number of the script, below end.
func (x *both) next(end int) int {
	if len(x.script) == 0 {
		return 0
	}
	n := int(x.script[0]) % end
	x.script = x.script[1:]
	return n
}

func (x *both) each(do func(b *bay.Bay)) {
	do(x.r.bay)
	do(x.p.bay)
}

// number is one about an end, seldom far from it.
func (x *both) number(end int) int {
	if x.next(9) == 1 {
		return ints[x.next(len(ints))]
	}
	return x.next(end+2) - 1
}

// relabel gives the label other states, or makes it such as may not be.
func (x *both) relabel() {
	i := x.next(x.l.Members)
	switch x.next(8) {
	case 0:
		x.l.Epoch = int64(x.next(3))
	case 1, 2:
		x.l.States[i], x.l.Marks[i] = label.Failed, 0
	case 3, 4:
		x.l.States[i], x.l.Marks[i] = label.Rebuilding, x.next(x.l.Stripes+1)
	default:
		x.l.States[i], x.l.Marks[i], x.l.Epoch = label.InSync, 0, 1
	}
}

// change does something to both bays.
func (x *both) change() {
	i, c, n := x.next(x.r.bay.Size()), byte(x.next(256)), x.next(4)
	stripe := x.next(x.l.Stripes)
	kind := x.next(7)
	x.each(func(b *bay.Bay) {
		switch kind {
		case 0:
			b.Member(i).Fail()
		case 1, 2:
			b.Member(i).Replace()
		case 3:
			b.Member(i).Rot(100+stripe, full(c))
		case 4:
			b.Write(i, 100+stripe, full(c))
		case 5:
			b.Cut(n)
		case 6:
			b.Crash()
		}
	})
}

// fill gives a stripe columns that fit.
func (x *both) fill() {
	stripe, n := x.next(x.l.Stripes), x.l.Members
	var data []string
	for range n - 2 {
		data = append(data, full(byte(x.next(256))))
	}
	p, q, _ := syndrome.Make(data)
	x.each(func(b *bay.Bay) {
		for column, s := range append(slices.Clone(data), p, q) {
			b.Member(memberOf(n, stripe, column)).Rot(100+stripe, s)
		}
	})
}

// call makes the script's next call.
func (x *both) call(t *testing.T) {
	stripe, column := x.number(x.l.Stripes), x.number(x.l.Members)
	switch x.next(12) {
	case 0, 1:
		y, e := x.r.Load(x.l, stripe)
		if want, f := x.p.load(x.l, stripe); !sameRow(y, want) || e != f {
			t.Fatalf("Load(%v, %d): %#v, %d; want %#v, %d", x.l, stripe, y, e, want, f)
		}
	case 2, 3:
		s, e := x.r.One(x.l, stripe, column)
		if want, f := x.p.one(x.l, stripe, column); s != want || e != f {
			t.Fatalf("One(%v, %d, %d): %q, %d; want %q, %d", x.l, stripe, column, s, e, want, f)
		}
	case 4:
		s, e := x.r.Column(x.l, stripe, column)
		if want, f := x.p.column(x.l, stripe, column); s != want || e != f {
			t.Fatalf("Column(%v, %d, %d): %q, %d; want %q, %d", x.l, stripe, column, s, e, want, f)
		}
	case 5:
		if ok, want := x.r.Whole(x.l, stripe), x.p.whole(x.l, stripe); ok != want {
			t.Fatalf("Whole(%v, %d): %v, want %v", x.l, stripe, ok, want)
		}
	case 6:
		g, e := x.r.Gone(x.l, stripe)
		if want, f := x.p.gone(x.l, stripe); !slices.Equal(g, want) || e != f {
			t.Fatalf("Gone(%v, %d): %v, %d; want %v, %d", x.l, stripe, g, e, want, f)
		}
	case 7:
		columns := map[int]string{column: full('a'), x.number(x.l.Members): full('b'), x.next(x.l.Members): full('c') + "cc"[x.next(3):]}
		w, e := Writes(x.l, stripe, columns)
		if want, f := plainWrites(x.l, stripe, columns); !slices.Equal(w, want) || e != f {
			t.Fatalf("Writes(%v, %d, %#v): %#v, %d; want %#v, %d", x.l, stripe, columns, w, e, want, f)
		}
	case 8:
		x.relabel()
	case 9, 10:
		x.change()
	case 11:
		x.fill()
	}
}

// alike holds what the reader counts, and what its bay was asked for, against the plain one's.
func (x *both) alike(t *testing.T) {
	t.Helper()
	if got := fixed(x.r); !slices.Equal(got, x.p.kind[:]) {
		t.Fatalf("fixed %v, want %v", got, x.p.kind)
	}
	if x.r.bay.Steps() != x.p.bay.Steps() {
		t.Fatalf("steps %d, want %d", x.r.bay.Steps(), x.p.bay.Steps())
	}
	for i := range x.p.bay.Size() {
		if got, want := x.r.bay.Member(i).Counts(), x.p.bay.Member(i).Counts(); got != want {
			t.Fatalf("member %d: %v, want %v", i, got, want)
		}
	}
}

// run runs a script: its first bytes say which bay and label.
func run(t *testing.T, script []byte) {
	x := &both{script: script}
	g := geom.Geometry{Members: []int{4, 5, 5, 6, 32}[x.next(5)], Stripes: []int{1, 2, 7, 64}[x.next(4)]}
	size := g.Members
	if x.next(6) == 1 {
		size = 1 + x.next(32)
	}
	sectors := 100 + g.Stripes - []int{0, 0, 0, 0, 1, 100}[x.next(6)]
	x.l, _ = label.New(g)
	x.r, x.p = New(bay.New(size, sectors)), &plain{bay: bay.New(size, sectors)}
	for len(x.script) > 0 {
		x.call(t)
		x.alike(t)
	}
}

// TestScriptsP16_1P16_2P16_3P16_4: all that a reader answers, against the plain one.
func TestScriptsP16_1P16_2P16_3P16_4(t *testing.T) {
	for seed := range int64(400) {
		script := make([]byte, 600)
		rand.New(rand.NewSource(seed)).Read(script)
		run(t, script)
	}
}

func FuzzReader(f *testing.F) {
	f.Add([]byte{1, 2, 0, 0, 0, 0, 0, 11, 0, 1, 2, 3, 0, 0, 9, 1, 0, 0, 0, 0, 0, 1, 0, 1, 0})
	f.Fuzz(func(t *testing.T, script []byte) {
		if len(script) <= 600 {
			run(t, script)
		}
	})
}

// TestEmptyReaderP1: a reader that New didn't make has no bay, and says so.
func TestEmptyReaderP1(t *testing.T) {
	l := build(t, 5, 3).l
	r := &Reader{}
	if _, e := r.Load(l, 0); e != api.ErrNil {
		t.Errorf("Load: %d", e)
	}
	if _, e := r.One(l, 0, 0); e != api.ErrNil {
		t.Errorf("One: %d", e)
	}
	if _, e := r.Column(l, 0, 0); e != api.ErrNil {
		t.Errorf("Column: %d", e)
	}
	if g, e := r.Gone(l, 0); len(g) != 0 || e != api.OK {
		t.Errorf("Gone: %v, %d", g, e)
	}
	if r.Whole(l, 0) || r.Fixed(repair.Whole) != 0 {
		t.Error("it is whole, or has fixed something")
	}
}

// TestApartP2: readers of bays of their own have nothing to do with one another, also at the same time.
func TestApartP2(t *testing.T) {
	var all sync.WaitGroup
	told := make([]error, 8)
	for i := range told {
		a := build(t, 5, 7)
		r := New(a.bay)
		a.lose(0, i%5, i)
		all.Go(func() {
			for range 50 {
				if y, e := r.Load(a.l, 0); e != api.OK || !slices.Equal(y.Columns, a.truth[0]) || !slices.Equal(y.Lost, []int{i % 5}) {
					told[i] = fmt.Errorf("%#v, %d", y, e)
				}
			}
			if n := r.Fixed(kindOf(3, []int{i % 5})); n != 50 {
				told[i] = fmt.Errorf("%d are fixed", n)
			}
		})
	}
	all.Wait()
	for i, err := range told {
		if err != nil {
			t.Errorf("the reader %d: %v", i, err)
		}
	}
}
