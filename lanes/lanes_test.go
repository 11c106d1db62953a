package lanes

import (
	"math"
	"strings"
	"testing"
)

// words are ordinary ones, edges of bytes, and words whose bytes must not touch their neighbours.
func words() []uint64 {
	l := []uint64{0, 1, 0x80, 0x8001, 0x1d02, ^uint64(0), 0x0102030405060708, 0x80ff7f0001000080, 0x8000000000000000, 0x7f7f7f7f7f7f7f7f, 0x8080808080808080, 0x0101010101010101, 0xfefefefefefefefe, 0xff00ff00ff00ff00, 0x00ff00ff00ff00ff}
	x := uint64(0x243f6a8885a308d3)
	for range 300 {
		x = x*6364136223846793005 + 1442695040888963407
		l = append(l, x^x>>29)
	}
	return l
}

// product multiplies as the chapter words it: all of the polynomials' product first, then its rest modulo 11d.
func product(a, b byte) byte {
	whole := 0
	for i := range 8 {
		for j := range 8 {
			if a>>i&1 == 1 && b>>j&1 == 1 {
				whole ^= 1 << (i + j)
			}
		}
	}
	for i := 14; i >= 8; i-- {
		if whole>>i&1 == 1 {
			whole ^= 0x11d << (i - 8)
		}
	}
	return byte(whole)
}

// lane is a byte of a word, the lowest one first.
func lane(x uint64, i int) byte {
	for range i {
		x /= 256
	}
	return byte(x % 256)
}

// inLane is a word with one byte at a lane, and others all round it.
func inLane(b byte, i int, others byte) uint64 {
	x := uint64(0)
	for j := 7; j >= 0; j-- {
		x *= 256
		if j == i {
			x += uint64(b)
		} else {
			x += uint64(others)
		}
	}
	return x
}

func TestLoadP1_1(t *testing.T) {
	for _, x := range []struct {
		name string
		s    string
		at   int
		want uint64
	}{
		{"the chapter's example", "abc", 1, 0x6362},
		{"eight bytes, the lowest first", "abcdefgh", 0, 0x6867666564636261},
		{"the last eight", "abcdefghi", 1, 0x6968676665646362},
		{"one less than eight", "abcdefghi", 2, 0x69686766656463},
		{"bytes behind the eighth", "abcdefghijkl", 0, 0x6867666564636261},
		{"the last byte", "abc", 2, 0x63},
		{"behind the end", "abc", 3, 0},
		{"far behind the end", "abc", 1 << 40, 0},
		{"one below 0", "abc", -1, 0x63626100},
		{"both below 0 and behind the end", "abc", -3, 0x636261000000},
		{"only the first byte", "abc", -7, 0x6100000000000000},
		{"eight below 0", "abc", -8, 0},
		{"far below 0", "abc", -1 << 40, 0},
		{"below 0, a long text", "abcdefghijkl", -2, 0x6665646362610000},
		{"no text", "", 0, 0},
		{"no text, below 0", "", -4, 0},
		{"bytes that are no characters", "\x00\xff\x80\xc3", 0, 0xc380ff00},
		{"characters of several bytes", "é", 0, 0xa9c3},
	} {
		if got := Load(x.s, x.at); got != x.want {
			t.Errorf("%s: Load(%q, %d) is %x, want %x", x.name, x.s, x.at, got, x.want)
		}
	}
}

func TestLoadEveryPlaceP1_1(t *testing.T) {
	text := "\xff\xfe\xfd\xfc\xfb\xfa\xf9\xf8\xf7\xf6\xf5\xf4\xf3\xf2\xf1\xf0\x80\x01\x7f"
	for n := range len(text) + 1 {
		s := text[:n]
		for at := -20; at <= n+20; at++ {
			got := Load(s, at)
			for i := range 8 {
				want := byte(0)
				if at+i >= 0 && at+i < n {
					want = s[at+i]
				}
				if lane(got, i) != want {
					t.Fatalf("Load(%q, %d) is %x: byte %d isn't %x", s, at, got, i, want)
				}
			}
		}
	}
}

func TestLoadGreatestAndLeastP1_1(t *testing.T) {
	for _, s := range []string{"", "a", "abcdefgh", strings.Repeat("\xff", 100)} {
		for i := range 10 {
			if got := Load(s, math.MaxInt-i); got != 0 {
				t.Errorf("Load of %d bytes at the greatest int less %d is %x", len(s), i, got)
			}
			if got := Load(s, math.MinInt+i); got != 0 {
				t.Errorf("Load of %d bytes at the least int and %d is %x", len(s), i, got)
			}
		}
	}
}

func TestStoreP1_1(t *testing.T) {
	for _, x := range []struct {
		x    uint64
		want string
	}{
		{0, "\x00\x00\x00\x00\x00\x00\x00\x00"},
		{0x0102030405060708, "\x08\x07\x06\x05\x04\x03\x02\x01"},
		{0x6867666564636261, "abcdefgh"},
		{^uint64(0), "\xff\xff\xff\xff\xff\xff\xff\xff"},
		{0x80, "\x80\x00\x00\x00\x00\x00\x00\x00"},
		{0x80 << 56, "\x00\x00\x00\x00\x00\x00\x00\x80"},
	} {
		if got := Store(x.x); got != x.want {
			t.Errorf("Store(%x) is %q, want %q", x.x, got, x.want)
		}
	}
	for _, x := range words() {
		s := Store(x)
		if len(s) != 8 || Load(s, 0) != x {
			t.Errorf("Store(%x) is %q, loaded %x", x, s, Load(s, 0))
		}
	}
}

func TestSpreadP1_1(t *testing.T) {
	for b := range 256 {
		got := Spread(byte(b))
		for i := range 8 {
			if lane(got, i) != byte(b) {
				t.Errorf("Spread(%x) is %x", b, got)
			}
		}
	}
}

func TestHighP1_2(t *testing.T) {
	if got := High(0x80ff7f0001000080); got != 0xffff0000000000ff {
		t.Errorf("High is %x", got)
	}
	eachLane(t, "High", High, func(b byte) byte {
		if b >= 128 {
			return 0xff
		}
		return 0
	})
}

func TestTwiceP1_2(t *testing.T) {
	if got := Twice(0x8001); got != 0x1d02 {
		t.Errorf("Twice(8001) is %x, want 1d02", got)
	}
	eachLane(t, "Twice", Twice, func(b byte) byte { return product(b, 2) })
}

func TestHalfP1_2(t *testing.T) {
	if got := Half(0x1d02); got != 0x8001 {
		t.Errorf("Half(1d02) is %x, want 8001", got)
	}
	eachLane(t, "Half", Half, func(b byte) byte {
		for h := range 256 {
			if product(byte(h), 2) == b {
				return byte(h)
			}
		}
		t.Fatalf("nothing doubled is %x", b)
		return 0
	})
	for _, x := range words() {
		if Half(Twice(x)) != x || Twice(Half(x)) != x {
			t.Errorf("%x: doubled and halved %x, halved and doubled %x", x, Half(Twice(x)), Twice(Half(x)))
		}
	}
}

func TestTimesP1_2(t *testing.T) {
	for _, x := range []struct {
		x    uint64
		c    byte
		want uint64
	}{{0x0201, 3, 0x0603}, {0x80, 4, 0x3a}, {^uint64(0), 0, 0}, {0, 0xff, 0}, {0xff, 0xff, 0xe2}, {0x0102030405060708, 1, 0x0102030405060708}, {0x8001, 2, 0x1d02}, {0x02, 0x8e, 0x01}} {
		if got := Times(x.x, x.c); got != x.want {
			t.Errorf("Times(%x, %x) is %x, want %x", x.x, x.c, got, x.want)
		}
	}
	for c := range 256 {
		eachLane(t, "Times", func(x uint64) uint64 { return Times(x, byte(c)) }, func(b byte) byte { return product(b, byte(c)) })
	}
}

// eachLane holds what is done to words against what is to be done to each byte of them.
func eachLane(t *testing.T, name string, f func(uint64) uint64, want func(byte) byte) {
	t.Helper()
	var table [256]byte
	for b := range 256 {
		table[b] = want(byte(b))
	}
	check := func(x uint64) {
		got := f(x)
		for i := range 8 {
			if lane(got, i) != table[lane(x, i)] {
				t.Fatalf("%s of %016x is %016x: byte %d isn't %x", name, x, got, i, table[lane(x, i)])
			}
		}
	}
	for b := range 256 {
		for i := range 8 {
			check(inLane(byte(b), i, 0))
			check(inLane(byte(b), i, 0xff))
		}
	}
	for _, x := range words() {
		check(x)
	}
}
