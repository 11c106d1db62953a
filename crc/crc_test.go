package crc

import (
	"hash/crc32"
	"math"
	"strings"
	"sync"
	"testing"
)

// sumOf reckons as the chapter words it, with the register's bits in a list, the lowest one first.
func sumOf(s string) uint32 {
	var register [32]bool
	for i := range register {
		register[i] = true
	}
	for _, b := range []byte(s) {
		put(&register, uint32(b))
		for range 8 {
			fell := register[0]
			copy(register[:], register[1:])
			register[31] = false
			if fell {
				put(&register, 0xEDB88320)
			}
		}
	}
	out := uint32(0)
	for i, set := range register {
		if !set {
			out |= 1 << i
		}
	}
	return out
}

// put is exclusive or.
func put(register *[32]bool, x uint32) {
	for i := range register {
		register[i] = register[i] != (x>>i&1 == 1)
	}
}

// texts are of many lengths, with every byte in them, and with noughts ahead and behind.
func texts() []string {
	all := make([]byte, 256)
	for i := range all {
		all[i] = byte(i)
	}
	out := []string{"", "\x00", "\xff", "a", "123456789", "\x00\x00\x00\x00", "\xff\xff\xff\xff", "\x00\x00\x00\xff", "\xff\x00\x00\x00", "grüße", "\xc3\x28", string(all), strings.Repeat("\x00", 64), strings.Repeat("xyz", 60)}
	for n := range 40 {
		out = append(out, string(all[255-n:]))
	}
	return out
}

func TestReferencesAgree(t *testing.T) {
	for _, s := range texts() {
		if sumOf(s) != crc32.ChecksumIEEE([]byte(s)) {
			t.Fatalf("%q: %x by the chapter's words, %x by IEEE 802.3", s, sumOf(s), crc32.ChecksumIEEE([]byte(s)))
		}
	}
}

func TestSlowP6_1(t *testing.T) {
	for _, x := range []struct {
		s    string
		want uint32
	}{
		{"123456789", 0xcbf43926}, // the chapter's example
		{"", 0},
		{"a", 0xe8b7be43},
		{"\x00", 0xd202ef8d},
		{"\xff\xff\xff\xff", 0xffffffff},
	} {
		if got := Slow(x.s); got != x.want {
			t.Errorf("Slow(%q) is %x, want %x", x.s, got, x.want)
		}
	}
	for _, s := range texts() {
		if got := Slow(s); got != sumOf(s) {
			t.Errorf("Slow(%q) is %x, want %x", s, got, sumOf(s))
		}
	}
}

func TestSlowOfEveryByteP6_1(t *testing.T) {
	for i := range 256 {
		s := string([]byte{byte(i)})
		if got := Slow(s); got != sumOf(s) {
			t.Errorf("Slow(%q) is %x, want %x", s, got, sumOf(s))
		}
	}
}

func TestMadeP6_2(t *testing.T) {
	x := New()
	if x == nil || x.Made() != 0 || x.Made() != 0 {
		t.Fatalf("new tables were made %d times", x.Made())
	}
	for _, s := range texts() {
		x.Sum(s)
		x.More(7, s)
		x.Join(7, 8, len(s))
	}
	if x.Made() != 1 {
		t.Errorf("made %d times behind many calls", x.Made())
	}
}

func TestMadeByFirstCallP6_2(t *testing.T) {
	for name, call := range map[string]func(*Table){
		"Sum":             func(x *Table) { x.Sum("a") },
		"Sum of nothing":  func(x *Table) { x.Sum("") },
		"More":            func(x *Table) { x.More(7, "a") },
		"More by nothing": func(x *Table) { x.More(7, "") },
		"Join":            func(x *Table) { x.Join(7, 8, 9) },
		"Join by 0":       func(x *Table) { x.Join(7, 8, 0) },
		"Join below 0":    func(x *Table) { x.Join(7, 8, -1) },
		"Join of noughts": func(x *Table) { x.Join(0, 0, math.MinInt) },
	} {
		x := New()
		call(x)
		if x.Made() != 1 {
			t.Errorf("%s: made %d times behind the first call", name, x.Made())
		}
		call(x)
		if x.Made() != 1 {
			t.Errorf("%s: made %d times behind the second call", name, x.Made())
		}
	}
}

func TestSlowMakesNothingP6_2(t *testing.T) {
	x := New()
	Slow("123456789")
	if x.Made() != 0 {
		t.Errorf("made %d times by a sum without tables", x.Made())
	}
}

func TestSumP6_2(t *testing.T) {
	x := New()
	if got := x.Sum("123456789"); got != 0xcbf43926 {
		t.Errorf("the chapter's example: Sum is %x", got)
	}
	for _, s := range texts() {
		if got := x.Sum(s); got != sumOf(s) {
			t.Errorf("Sum(%q) is %x, want %x", s, got, sumOf(s))
		}
	}
	for i := range 256 {
		s := string([]byte{byte(i)})
		if got := x.Sum(s); got != sumOf(s) {
			t.Errorf("Sum(%q) is %x, want %x", s, got, sumOf(s))
		}
	}
}

func TestSumOfLongTextP6_2(t *testing.T) {
	s := strings.Repeat("trunnion\x00\xff", 100000)
	if got, want := New().Sum(s), crc32.ChecksumIEEE([]byte(s)); got != want || Slow(s) != want {
		t.Errorf("Sum of a million bytes is %x, Slow %x, want %x", got, Slow(s), want)
	}
}

func TestMoreP6_2(t *testing.T) {
	x := New()
	for _, s := range texts() {
		want := sumOf(s)
		for k := range len(s) + 1 {
			if got := x.More(sumOf(s[:k]), s[k:]); got != want {
				t.Fatalf("More of %q and %q is %x, want %x", s[:k], s[k:], got, want)
			}
		}
	}
}

func TestMoreOfNothingP6_2(t *testing.T) {
	x := New()
	for _, sum := range []uint32{0, 1, 7, 1 << 31, 0xEDB88320, math.MaxUint32} {
		if got := x.More(sum, ""); got != sum {
			t.Errorf("More(%x, nothing) is %x", sum, got)
		}
	}
}

// endingIn is a text of four bytes more, whose sum is the wanted one: so any number is a text's sum. Each of the steps is undone, the last one first.
func endingIn(s string, want uint32) string {
	back := ^want
	for range 32 {
		if back&(1<<31) != 0 {
			back = (back^0xEDB88320)<<1 | 1
		} else {
			back <<= 1
		}
	}
	at := back ^ ^sumOf(s)
	return s + string([]byte{byte(at), byte(at >> 8), byte(at >> 16), byte(at >> 24)})
}

// edges are sums that are asked for in the tests of any sum.
func edges() []uint32 {
	return []uint32{0, 1, 2, 0x80, 0xff, 0x100, 1 << 31, 0x7fffffff, 0xEDB88320, 0xdeadbeef, math.MaxUint32}
}

func TestMoreOfAnySumP6_2(t *testing.T) {
	x := New()
	for _, sum := range edges() {
		for _, s := range []string{"", "some text"} {
			s = endingIn(s, sum)
			if sumOf(s) != sum {
				t.Fatalf("%q has the sum %x, want %x", s, sumOf(s), sum)
			}
			if got, want := x.More(sum, "123456789"), sumOf(s+"123456789"); got != want {
				t.Errorf("More(%x, 123456789) is %x, want %x", sum, got, want)
			}
		}
	}
}

func TestJoinP6_3(t *testing.T) {
	x := New()
	if got := x.Join(x.Sum("1234"), x.Sum("56789"), 5); got != 0xcbf43926 {
		t.Errorf("the chapter's example: Join is %x", got)
	}
	for _, s := range texts() {
		want := sumOf(s)
		for k := range len(s) + 1 {
			if got := x.Join(sumOf(s[:k]), sumOf(s[k:]), len(s)-k); got != want {
				t.Fatalf("Join of %q and %q is %x, want %x", s[:k], s[k:], got, want)
			}
		}
	}
}

func TestJoinOfAnySumsP6_3(t *testing.T) {
	x := New()
	for _, a := range edges() {
		for _, b := range edges() {
			for _, rest := range []string{"", "1", "some more text"} {
				first, second := endingIn("ahead", a), endingIn(rest, b)
				if got, want := x.Join(a, b, len(second)), sumOf(first+second); got != want {
					t.Errorf("Join(%x, %x, %d) is %x, want %x", a, b, len(second), got, want)
				}
			}
		}
	}
}

func TestJoinBelowOneP6_3(t *testing.T) {
	x := New()
	for _, a := range edges() {
		for _, n := range []int{0, -1, -2, -5, -1 << 40, math.MinInt + 1, math.MinInt} {
			if got := x.Join(a, 8, n); got != a {
				t.Errorf("Join(%x, 8, %d) is %x", a, n, got)
			}
		}
	}
}

func TestJoinOfEveryLengthP6_3(t *testing.T) {
	x := New()
	ahead, behind := sumOf("ahead"), uint32(0)
	whole := ahead
	for n := 1; n < 5000; n++ {
		behind, whole = crc32.Update(behind, crc32.IEEETable, []byte{byte(n)}), crc32.Update(whole, crc32.IEEETable, []byte{byte(n)})
		if got := x.Join(ahead, behind, n); got != whole {
			t.Fatalf("Join with %d bytes behind is %x, want %x", n, got, whole)
		}
	}
}

// noughts is the sum of a text that has a given sum, with n bytes of 0 behind it, for an n of any size: what 1, 2, 4 .. such bytes do to each bit of a register is reckoned in turn, of the one before twice.
func noughts(sum uint32, n uint64) uint32 {
	var does [32]uint32
	for i := range does {
		does[i] = ^crc32.Update(^(uint32(1) << i), crc32.IEEETable, []byte{0})
	}
	register := ^sum
	for ; n > 0; n /= 2 {
		if n%2 == 1 {
			register = done(does, register)
		}
		next := does
		for i := range next {
			next[i] = done(does, does[i])
		}
		does = next
	}
	return ^register
}

// done is what is done to a whole register, by what is done to each of its bits.
func done(does [32]uint32, register uint32) uint32 {
	out := uint32(0)
	for i, to := range does {
		if register>>i&1 == 1 {
			out ^= to
		}
	}
	return out
}

func TestNoughtsAgree(t *testing.T) {
	for n := range 70 {
		if got, want := noughts(sumOf("ahead"), uint64(n)), sumOf("ahead"+strings.Repeat("\x00", n)); got != want {
			t.Fatalf("%d noughts: %x, want %x", n, got, want)
		}
	}
}

func TestJoinOfGreatLengthsP6_3(t *testing.T) {
	x := New()
	check := func(n int) {
		t.Helper()
		behind := noughts(0, uint64(n))
		for _, a := range edges() {
			if got, want := x.Join(a, behind, n), noughts(a, uint64(n)); got != want {
				t.Fatalf("Join(%x, %x, %d) is %x, want %x", a, behind, n, got, want)
			}
		}
	}
	for k := range 62 {
		check(1 << k)
		check(1<<k + 1)
		check(1<<(k+1) - 1)
	}
	for i := range 40 {
		check(1 << 62)
		check(1<<62 + i)
		check(math.MaxInt - i)
		check(math.MaxInt / (i + 1))
	}
}

func TestAtTheSameTimeP6_2(t *testing.T) {
	for range 50 {
		x := New()
		var workers sync.WaitGroup
		start := make(chan struct{})
		for i := range 16 {
			workers.Go(func() {
				<-start
				atOnce(t, x, i)
			})
		}
		close(start)
		workers.Wait()
		if x.Made() != 1 {
			t.Fatalf("made %d times by calls at the same time", x.Made())
		}
	}
}

// atOnce asks as one of several: whoever has an answer finds the tables made, and made once.
func atOnce(t *testing.T, x *Table, i int) {
	if n := x.Made(); n != 0 && n != 1 {
		t.Errorf("made %d times ahead of a call", n)
	}
	got := uint32(0)
	switch i % 3 {
	case 0:
		got = x.Sum("123456789")
	case 1:
		got = x.More(sumOf("1234"), "56789")
	default:
		got = x.Join(sumOf("1234"), sumOf("56789"), 5)
	}
	if got != 0xcbf43926 {
		t.Errorf("call %d answers %x", i%3, got)
	}
	if n := x.Made(); n != 1 {
		t.Errorf("made %d times behind a call", n)
	}
}

func TestTablesApartP2(t *testing.T) {
	x, y := New(), New()
	x.Sum("a")
	if x.Made() != 1 || y.Made() != 0 {
		t.Errorf("made %d and %d times", x.Made(), y.Made())
	}
	if got := y.Sum("123456789"); got != 0xcbf43926 || x.Made() != 1 || y.Made() != 1 {
		t.Errorf("Sum is %x, made %d and %d times", got, x.Made(), y.Made())
	}
}

func TestNothingIsKeptP6_2(t *testing.T) {
	x := New()
	x.Sum("some other text")
	x.More(9, "and more")
	x.Join(1, 2, 3)
	for range 2 {
		if got := x.Sum("123456789"); got != 0xcbf43926 {
			t.Errorf("Sum behind other calls is %x", got)
		}
	}
}

func TestNilTable(t *testing.T) {
	var x *Table
	if x.Made() != 0 || x.Sum("") != 0 || x.Sum("123456789") != 0 || x.More(7, "") != 0 || x.More(7, "a") != 0 {
		t.Errorf("of a nil table: made %d times, Sum %x, More %x", x.Made(), x.Sum("123456789"), x.More(7, "a"))
	}
	for _, n := range []int{math.MinInt, -1, 0, 1, 5, math.MaxInt} {
		if got := x.Join(7, 8, n); got != 0 {
			t.Errorf("of a nil table: Join(7, 8, %d) is %x", n, got)
		}
	}
	if x.Made() != 0 {
		t.Errorf("a nil table was made %d times", x.Made())
	}
}
