package gf

import (
	"math"
	"sync"
	"testing"

	"trunnion/api"
)

// product multiplies as layer 1's chapter words it: all of the polynomials' product first, then its rest modulo 11d.
func product(a, b byte) byte {
	whole := 0
	for i := range 8 {
		for j := range 8 {
			if a>>i&1 == 1 && b>>j&1 == 1 {
				whole ^= 1 << (i + j)
			}
		}
	}
	for i := 14; i >= 8; i-- {
		if whole>>i&1 == 1 {
			whole ^= 0x11d << (i - 8)
		}
	}
	return byte(whole)
}

// pairs calls with every two elements.
func pairs(f func(a, b byte)) {
	for a := range 256 {
		for b := range 256 {
			f(byte(a), byte(b))
		}
	}
}

func TestProductP2_1(t *testing.T) {
	for _, x := range []struct{ a, b, want byte }{
		{0x80, 2, 0x1d}, // the chapter's example
		{2, 0x80, 0x1d},
		{3, 7, 9},
		{0, 0, 0},
		{0, 0xff, 0},
		{0xff, 0, 0},
		{1, 0xff, 0xff},
		{0xff, 0xff, 0xe2},
		{2, 0x8e, 1},
	} {
		if got := Product(x.a, x.b); got != x.want {
			t.Errorf("Product(%x, %x) is %x, want %x", x.a, x.b, got, x.want)
		}
	}
	pairs(func(a, b byte) {
		if got := Product(a, b); got != product(a, b) {
			t.Fatalf("Product(%x, %x) is %x, want %x", a, b, got, product(a, b))
		}
	})
}

func TestMadeP2_2(t *testing.T) {
	f := New()
	if f == nil || f.Made() != 0 || f.Made() != 0 {
		t.Fatalf("a new field was made %d times", f.Made())
	}
	if got := f.Mul(3, 7); got != 9 || f.Made() != 1 {
		t.Errorf("the chapter's example: Mul(3, 7) is %x, made %d times", got, f.Made())
	}
	pairs(func(a, b byte) {
		f.Mul(a, b)
		f.Div(a, b)
		f.Exp(int(a) - int(b))
		f.Log(a)
	})
	if f.Made() != 1 {
		t.Errorf("made %d times behind many calls", f.Made())
	}
}

// firstCalls are calls of each kind, those that answer 0 or an error among them: each is a first call that makes the tables.
func firstCalls() map[string]func(*Field) {
	return map[string]func(*Field){
		"Mul":            func(f *Field) { f.Mul(3, 7) },
		"Mul of 0":       func(f *Field) { f.Mul(0, 7) },
		"Mul by 0":       func(f *Field) { f.Mul(7, 0) },
		"Div":            func(f *Field) { f.Div(3, 7) },
		"Div of 0":       func(f *Field) { f.Div(0, 7) },
		"Div by 0":       func(f *Field) { f.Div(7, 0) },
		"Exp":            func(f *Field) { f.Exp(300) },
		"Exp of 0":       func(f *Field) { f.Exp(0) },
		"Exp below 0":    func(f *Field) { f.Exp(-1) },
		"Log":            func(f *Field) { f.Log(7) },
		"Log of 0":       func(f *Field) { f.Log(0) },
		"Log of 1, of 2": func(f *Field) { f.Log(1); f.Log(2) },
	}
}

func TestMadeByFirstCallP2_2(t *testing.T) {
	for name, call := range firstCalls() {
		f := New()
		call(f)
		if f.Made() != 1 {
			t.Errorf("%s: made %d times behind the first call", name, f.Made())
		}
		call(f)
		if f.Made() != 1 {
			t.Errorf("%s: made %d times behind the second call", name, f.Made())
		}
	}
}

func TestProductMakesNothingP2_2(t *testing.T) {
	f := New()
	Product(3, 7)
	if f.Made() != 0 {
		t.Errorf("made %d times by a product without tables", f.Made())
	}
}

func TestMadeAtTheSameTimeP2_2(t *testing.T) {
	for range 50 {
		f := New()
		var workers sync.WaitGroup
		start := make(chan struct{})
		for i := range 16 {
			workers.Go(func() {
				<-start
				atOnce(t, f, byte(i+1))
			})
		}
		close(start)
		workers.Wait()
		if f.Made() != 1 {
			t.Fatalf("made %d times by calls at the same time", f.Made())
		}
	}
}

// atOnce asks as one of several: whoever has an answer finds the tables made, and made once.
func atOnce(t *testing.T, f *Field, a byte) {
	if n := f.Made(); n != 0 && n != 1 {
		t.Errorf("made %d times ahead of a call", n)
	}
	switch a % 4 {
	case 0:
		if got := f.Mul(a, 0x8e); got != product(a, 0x8e) {
			t.Errorf("Mul(%x, 8e) is %x", a, got)
		}
	case 1:
		if got, e := f.Div(product(a, 0x57), 0x57); got != a || e != api.OK {
			t.Errorf("Div by 57 is %x, %d, want %x", got, e, a)
		}
	case 2:
		if got := f.Exp(8); got != 0x1d {
			t.Errorf("Exp(8) is %x", got)
		}
	default:
		if got, e := f.Log(0x1d); got != 8 || e != api.OK {
			t.Errorf("Log(1d) is %d, %d", got, e)
		}
	}
	if n := f.Made(); n != 1 {
		t.Errorf("made %d times behind a call", n)
	}
}

func TestFieldsApartP2(t *testing.T) {
	f, g := New(), New()
	f.Mul(3, 7)
	if f.Made() != 1 || g.Made() != 0 {
		t.Errorf("made %d and %d times", f.Made(), g.Made())
	}
	if got := g.Exp(8); got != 0x1d || f.Made() != 1 || g.Made() != 1 {
		t.Errorf("Exp(8) is %x, made %d and %d times", got, f.Made(), g.Made())
	}
}

func TestMulP2_3(t *testing.T) {
	f := New()
	for _, x := range []struct{ a, b, want byte }{{0x80, 2, 0x1d}, {0, 0, 0}, {0, 9, 0}, {9, 0, 0}, {1, 1, 1}, {0xff, 0xff, 0xe2}} {
		if got := f.Mul(x.a, x.b); got != x.want {
			t.Errorf("Mul(%x, %x) is %x, want %x", x.a, x.b, got, x.want)
		}
	}
	pairs(func(a, b byte) {
		if got := f.Mul(a, b); got != product(a, b) {
			t.Fatalf("Mul(%x, %x) is %x, want %x", a, b, got, product(a, b))
		}
	})
}

func TestDivP2_3(t *testing.T) {
	f := New()
	for _, x := range []struct{ a, b, want byte }{{0x1d, 2, 0x80}, {1, 2, 0x8e}, {0, 5, 0}, {7, 7, 1}, {0xff, 1, 0xff}} {
		if got, e := f.Div(x.a, x.b); got != x.want || e != api.OK {
			t.Errorf("Div(%x, %x) is %x, %d, want %x", x.a, x.b, got, e, x.want)
		}
	}
	pairs(func(a, b byte) {
		got, e := f.Div(a, b)
		if b == 0 {
			if got != 0 || e != api.ErrZero {
				t.Fatalf("Div(%x, 0) is %x, %d", a, got, e)
			}
			return
		}
		if e != api.OK || product(got, b) != a {
			t.Fatalf("Div(%x, %x) is %x, %d: times %x that is %x", a, b, got, e, b, product(got, b))
		}
	})
}

func TestExpP2_3(t *testing.T) {
	f := New()
	for _, x := range []struct {
		n    int
		want byte
	}{{0, 1}, {1, 2}, {7, 0x80}, {8, 0x1d}, {254, 0x8e}, {255, 1}, {256, 2}, {-1, 0x8e}, {-254, 2}, {-255, 1}, {-256, 0x8e}} {
		if got := f.Exp(x.n); got != x.want {
			t.Errorf("Exp(%d) is %x, want %x", x.n, got, x.want)
		}
	}
	up, down := byte(1), byte(1)
	for n := range 1100 {
		if f.Exp(n) != up || f.Exp(-n) != down {
			t.Fatalf("Exp(%d) is %x, want %x; of less than 0 it is %x, want %x", n, f.Exp(n), up, f.Exp(-n), down)
		}
		up, down = product(up, 2), product(down, 0x8e)
	}
}

// raised is a power by squaring: n may be as great as an int's size below 0.
func raised(x byte, n uint64) byte {
	out := byte(1)
	for ; n > 0; n /= 2 {
		if n%2 == 1 {
			out = product(out, x)
		}
		x = product(x, x)
	}
	return out
}

func TestExpGreatestAndLeastP2_3(t *testing.T) {
	f := New()
	for i := range 600 {
		n := math.MaxInt - i
		if got, want := f.Exp(n), raised(2, uint64(n)); got != want {
			t.Fatalf("Exp of the greatest int less %d is %x, want %x", i, got, want)
		}
		n = math.MinInt + i
		if got, want := f.Exp(n), raised(0x8e, -uint64(n)); got != want {
			t.Fatalf("Exp of the least int and %d is %x, want %x", i, got, want)
		}
	}
}

func TestLogP2_3(t *testing.T) {
	f := New()
	if got, e := f.Log(0); got != 0 || e != api.ErrZero {
		t.Errorf("Log(0) is %d, %d", got, e)
	}
	for n, x := 0, byte(1); n < 255; n, x = n+1, product(x, 2) {
		if got, e := f.Log(x); got != n || e != api.OK {
			t.Errorf("Log(%x) is %d, %d, want %d", x, got, e, n)
		}
	}
	for a := 1; a < 256; a++ {
		if n, e := f.Log(byte(a)); n < 0 || n > 254 || e != api.OK || f.Exp(n) != byte(a) {
			t.Errorf("Log(%x) is %d, %d, of which Exp is %x", a, n, e, f.Exp(n))
		}
	}
}

func TestNilField(t *testing.T) {
	var f *Field
	if f.Made() != 0 || f.Mul(3, 7) != 0 || f.Exp(0) != 0 || f.Exp(math.MinInt) != 0 || f.Made() != 0 {
		t.Errorf("of a nil field: made %d times, Mul %x, Exp %x", f.Made(), f.Mul(3, 7), f.Exp(0))
	}
	for _, b := range []byte{0, 1, 7, 0xff} {
		if got, e := f.Div(5, b); got != 0 || e != api.ErrNil {
			t.Errorf("of a nil field: Div(5, %x) is %x, %d", b, got, e)
		}
		if got, e := f.Log(b); got != 0 || e != api.ErrNil {
			t.Errorf("of a nil field: Log(%x) is %d, %d", b, got, e)
		}
	}
}
