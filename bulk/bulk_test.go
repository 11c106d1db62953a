package bulk

import (
	"math"
	"slices"
	"strings"
	"sync"
	"testing"

	"trunnion/api"
)

// product multiplies as layer 1's chapter words it: all of the polynomials' product first, then its rest modulo 11d.
func product(a, b byte) byte {
	whole := 0
	for i := range 8 {
		for j := range 8 {
			if a>>i&1 == 1 && b>>j&1 == 1 {
				whole ^= 1 << (i + j)
			}
		}
	}
	for i := 14; i >= 8; i-- {
		if whole>>i&1 == 1 {
			whole ^= 0x11d << (i - 8)
		}
	}
	return byte(whole)
}

// lengths are those at and round a word's end, a block's, and the greatest one.
func lengths() []int {
	l := []int{63, 64, 65, 1000, api.MaxBuffer - 9, api.MaxBuffer - 8, api.MaxBuffer - 7, api.MaxBuffer - 1, api.MaxBuffer}
	for n := range 34 {
		l = append(l, n)
	}
	return l
}

// sample is a buffer of n bytes, another one for each seed.
func sample(n int, seed uint64) string {
	b := make([]byte, n)
	x := seed*0x9e3779b97f4a7c15 + 0x243f6a8885a308d3
	for i := range b {
		x = x*6364136223846793005 + 1442695040888963407
		b[i] = byte(x >> 56)
	}
	return string(b)
}

// every is the buffer of all elements.
func every() string {
	b := make([]byte, 256)
	for i := range b {
		b[i] = byte(i)
	}
	return string(b)
}

// bytewise is the buffer whose byte at each place is what f answers of that place.
func bytewise(n int, f func(i int) byte) string {
	b := make([]byte, n)
	for i := range b {
		b[i] = f(i)
	}
	return string(b)
}

// hold tells if an answer is not the one that is asked for.
func hold(t *testing.T, what string, got string, e api.Errno, want string, wantE api.Errno) {
	t.Helper()
	if e != wantE {
		t.Fatalf("%s: %v, want %v", what, e, wantE)
	}
	if len(got) != len(want) {
		t.Fatalf("%s: %d bytes, want %d", what, len(got), len(want))
	}
	for i := range want {
		if got[i] != want[i] {
			t.Fatalf("%s: of %d bytes the one at %d is %x, want %x", what, len(want), i, got[i], want[i])
		}
	}
}

func TestNoughtsP3_1(t *testing.T) {
	for _, x := range []struct{ n, want int }{
		{math.MinInt, 0}, {-1, 0}, {0, 0}, {1, 1}, {3, 3}, {7, 7}, {8, 8}, {9, 9}, {64, 64},
		{api.MaxBuffer - 1, api.MaxBuffer - 1}, {api.MaxBuffer, api.MaxBuffer}, {api.MaxBuffer + 1, api.MaxBuffer}, {math.MaxInt, api.MaxBuffer},
	} {
		got := Noughts(x.n)
		if len(got) != x.want || strings.Trim(got, "\x00") != "" {
			t.Errorf("Noughts(%d) is no buffer of %d noughts: %d bytes", x.n, x.want, len(got))
		}
	}
}

func TestAddP3_1(t *testing.T) {
	for _, x := range []struct {
		l    []string
		want string
	}{
		{nil, ""},
		{[]string{}, ""},
		{[]string{""}, ""},
		{[]string{"", "", ""}, ""},
		{[]string{"ab"}, "ab"},
		{[]string{"\x0f", "\x05"}, "\x0a"}, // the chapter's example
		{[]string{"\xff", "\xff"}, "\x00"},
		{[]string{"\x80", "\x80", "\x80"}, "\x80"},
		{[]string{"abcdefghi", "abcdefghi", "123456789"}, "123456789"},
	} {
		got, e := Add(x.l...)
		hold(t, "Add", got, e, x.want, api.OK)
	}
}

func TestAddEveryLengthP3_1(t *testing.T) {
	for _, n := range lengths() {
		for count := 1; count <= 5; count++ {
			var l []string
			for i := range count {
				l = append(l, sample(n, uint64(i)))
			}
			want := bytewise(n, func(i int) byte {
				sum := byte(0)
				for _, s := range l {
					sum ^= s[i]
				}
				return sum
			})
			got, e := Add(l...)
			hold(t, "Add", got, e, want, api.OK)
		}
	}
}

func TestAddManyBuffersP3_1(t *testing.T) {
	l := slices.Repeat([]string{"\x01abcdefgh", "\x02abcdefgh"}, 500)
	got, e := Add(append(l, "\x40abcdefgh")...)
	hold(t, "Add", got, e, "\x40abcdefgh", api.OK)
}

func TestExamplesP3_2(t *testing.T) {
	got, e := Fold("\x01", 2, "\x80")
	hold(t, "Fold", got, e, "\x1c", api.OK)
	got, e = Double("\x80", "\x01")
	hold(t, "Double", got, e, "\x1c", api.OK)
	got, e = Scale(2, "\x80\x01\x00\xff\x02\x03\x04\x05\x80")
	hold(t, "Scale", got, e, "\x1d\x02\x00\xe3\x04\x06\x08\x0a\x1d", api.OK)
}

func TestEveryElementP3_2(t *testing.T) {
	all, acc := every(), sample(256, 3)
	for c := range 256 {
		by := byte(c)
		got, e := Scale(by, all)
		hold(t, "Scale", got, e, bytewise(256, func(i int) byte { return product(byte(i), by) }), api.OK)
		got, e = Fold(acc, by, all)
		hold(t, "Fold", got, e, bytewise(256, func(i int) byte { return acc[i] ^ product(byte(i), by) }), api.OK)
		same := strings.Repeat(string([]byte{by}), 256)
		got, e = Double(all, same)
		hold(t, "Double", got, e, bytewise(256, func(i int) byte { return product(byte(i), 2) ^ by }), api.OK)
	}
}

func TestEveryLengthP3_2(t *testing.T) {
	for _, n := range lengths() {
		acc, s := sample(n, 1), sample(n, 2)
		for _, c := range []byte{0, 1, 2, 0x1d, 0x80, 0xff} {
			got, e := Scale(c, s)
			hold(t, "Scale", got, e, bytewise(n, func(i int) byte { return product(s[i], c) }), api.OK)
			got, e = Fold(acc, c, s)
			hold(t, "Fold", got, e, bytewise(n, func(i int) byte { return acc[i] ^ product(s[i], c) }), api.OK)
		}
		got, e := Double(acc, s)
		hold(t, "Double", got, e, bytewise(n, func(i int) byte { return product(acc[i], 2) ^ s[i] }), api.OK)
	}
}

func TestErrorsOfAddP3_1(t *testing.T) {
	long, most := sample(api.MaxBuffer+1, 1), sample(api.MaxBuffer, 2)
	for i, x := range []struct {
		l    []string
		want api.Errno
	}{
		{[]string{long}, api.ErrArg},
		{[]string{long, long}, api.ErrArg}, // as many bytes, but too many
		{[]string{"a", "ab", long}, api.ErrArg},
		{[]string{"a", long, "ab"}, api.ErrArg},
		{[]string{long, "a"}, api.ErrArg},
		{[]string{most, long}, api.ErrArg},
		{[]string{"", long}, api.ErrArg},
		{[]string{"a", "ab"}, api.ErrForm},
		{[]string{"ab", "a"}, api.ErrForm},
		{[]string{"", "a"}, api.ErrForm},
		{[]string{"a", ""}, api.ErrForm},
		{[]string{"a", "b", "cd"}, api.ErrForm},
		{[]string{"a", "bc", "d"}, api.ErrForm},
		{[]string{"ab", "c", "d"}, api.ErrForm},
		{[]string{"", "a", ""}, api.ErrForm},
		{[]string{"", "", "a"}, api.ErrForm},
		{[]string{"1234567", "12345678"}, api.ErrForm}, // of as many words
		{[]string{most, most[1:]}, api.ErrForm},
	} {
		got, e := Add(x.l...)
		if got != "" || e != x.want {
			t.Errorf("%d: Add is %d bytes and %v, want %v", i, len(got), e, x.want)
		}
	}
}

func TestErrorsP3_2(t *testing.T) {
	long, most := sample(api.MaxBuffer+1, 1), sample(api.MaxBuffer, 2)
	if got, e := Scale(2, long); got != "" || e != api.ErrArg {
		t.Errorf("Scale of too many bytes is %d bytes and %v", len(got), e)
	}
	if got, e := Scale(0, long); got != "" || e != api.ErrArg {
		t.Errorf("Scale by 0 of too many bytes is %d bytes and %v", len(got), e)
	}
	for i, x := range []struct {
		acc, s string
		want   api.Errno
	}{
		{long, long, api.ErrArg}, {long, "", api.ErrArg}, {"", long, api.ErrArg}, {most, long, api.ErrArg}, {long, most, api.ErrArg},
		{"a", "", api.ErrForm}, {"", "a", api.ErrForm}, {"ab", "a", api.ErrForm}, {"1234567", "12345678", api.ErrForm}, {most, most[1:], api.ErrForm},
	} {
		for _, c := range []byte{0, 1, 2, 0xff} {
			if got, e := Fold(x.acc, c, x.s); got != "" || e != x.want {
				t.Errorf("%d: Fold by %x is %d bytes and %v, want %v", i, c, len(got), e, x.want)
			}
		}
		if got, e := Double(x.acc, x.s); got != "" || e != x.want {
			t.Errorf("%d: Double is %d bytes and %v, want %v", i, len(got), e, x.want)
		}
	}
}

// What lies behind a list's length, or behind a text that was cut out of another, is none of the call's.
func TestAddTakesNoMoreThanItIsHanded(t *testing.T) {
	whole := "abcdefghijklmnopqrstuvwxyz"
	l := []string{whole[1:4], whole[5:8], "zzzzz"}
	before := slices.Clone(l)
	got, e := Add(l[:2]...)
	hold(t, "Add", got, e, bytewise(3, func(i int) byte { return whole[1+i] ^ whole[5+i] }), api.OK)
	if !slices.Equal(l, before) {
		t.Errorf("the list is %q behind the call, was %q", l, before)
	}
}

// An answer hangs on what was handed in alone: not on other calls at the same time, nor on those before.
func TestCallsAtTheSameTimeP2(t *testing.T) {
	var all sync.WaitGroup
	for seed := range uint64(16) {
		all.Go(func() {
			acc, s, c := sample(100, seed), sample(100, seed+100), byte(seed*17)
			want := bytewise(100, func(i int) byte { return acc[i] ^ product(s[i], c) })
			for range 50 {
				if got, e := Fold(acc, c, s); got != want || e != api.OK {
					t.Errorf("Fold at the same time as others: %x, %v", got, e)
				}
			}
		})
	}
	all.Wait()
}
