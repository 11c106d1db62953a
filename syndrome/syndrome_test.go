package syndrome

import (
	"math"
	"slices"
	"strings"
	"sync"
	"testing"

	"trunnion/api"
)

// doubled multiplies by 2 as layer 1's chapter words it: the polynomial times x, modulo 11d.
func doubled(b byte) byte {
	whole := int(b) << 1
	if whole > 0xff {
		whole ^= 0x11d
	}
	return byte(whole)
}

// times is a byte doubled i times.
func times(b byte, i int) byte {
	for range i {
		b = doubled(b)
	}
	return b
}

// sample is a buffer of n bytes, another one for each seed.
func sample(n int, seed uint64) string {
	b := make([]byte, n)
	x := seed*0x9e3779b97f4a7c15 + 0x243f6a8885a308d3
	for i := range b {
		x = x*6364136223846793005 + 1442695040888963407
		b[i] = byte(x >> 56)
	}
	return string(b)
}

// columns are as many samples of n bytes.
func columns(count, n int, seed uint64) []string {
	var l []string
	for i := range count {
		l = append(l, sample(n, seed+uint64(i)))
	}
	return l
}

// parities are those of columns of one length, byte by byte, by the chapter's words.
func parities(data []string) (string, string) {
	p, q := make([]byte, len(data[0])), make([]byte, len(data[0]))
	for i, s := range data {
		for at := range len(s) {
			p[at] ^= s[at]
			q[at] ^= times(s[at], i)
		}
	}
	return string(p), string(q)
}

// lengths are those at and round a word's end, a block's, and the greatest one.
func lengths() []int {
	return []int{0, 1, 2, 7, 8, 9, 15, 16, 17, 63, api.Block, 65, api.MaxBuffer - 1, api.MaxBuffer}
}

// hold tells if two parities are not those that are asked for.
func hold(t *testing.T, what string, p, q string, e api.Errno, wantP, wantQ string, want api.Errno) {
	t.Helper()
	if e != want {
		t.Fatalf("%s: %v, want %v", what, e, want)
	}
	if p != wantP {
		t.Fatalf("%s: P of %d bytes is not the one of %d that is asked for", what, len(p), len(wantP))
	}
	if q != wantQ {
		t.Fatalf("%s: Q of %d bytes is not the one of %d that is asked for", what, len(q), len(wantQ))
	}
}

func TestMakeP4_1(t *testing.T) {
	for _, x := range []struct {
		data []string
		p, q string
	}{
		{[]string{"\x01", "\x01", "\x01"}, "\x01", "\x07"}, // the chapter's example
		{[]string{"\x01", "\x01"}, "\x00", "\x03"},
		{[]string{"\x01", "\x00"}, "\x01", "\x01"},
		{[]string{"\x00", "\x01"}, "\x01", "\x02"},
		{[]string{"\x00", "\x80"}, "\x80", "\x1d"},
		{[]string{"\x80", "\x80", "\x80"}, "\x80", "\xa7"},
		{[]string{"\x01\x00", "\x00\x01"}, "\x01\x01", "\x01\x02"},
		{[]string{"\x00\x00", "\x00\x00", "\x00\x00"}, "\x00\x00", "\x00\x00"},
		{[]string{"", ""}, "", ""},
		{make([]string, api.MaxMembers-2), "", ""},
	} {
		p, q, e := Make(x.data)
		hold(t, "Make", p, q, e, x.p, x.q, api.OK)
	}
}

func TestMakeEveryNumberOfColumnsP4_1(t *testing.T) {
	for count := 2; count <= api.MaxMembers-2; count++ {
		for _, n := range []int{1, 8, 13, api.Block, 256} {
			data := columns(count, n, uint64(count))
			wantP, wantQ := parities(data)
			p, q, e := Make(data)
			hold(t, "Make", p, q, e, wantP, wantQ, api.OK)
		}
	}
}

func TestMakeEveryLengthP4_1(t *testing.T) {
	for _, n := range lengths() {
		for _, count := range []int{2, 3, api.MaxMembers - 2} {
			data := columns(count, n, uint64(n))
			wantP, wantQ := parities(data)
			p, q, e := Make(data)
			hold(t, "Make", p, q, e, wantP, wantQ, api.OK)
		}
	}
}

// Each column alone is in P as it is, and in Q times its weight, whichever element it has.
func TestMakeOneColumnAloneP4_1(t *testing.T) {
	all := make([]byte, 256)
	for b := range all {
		all[b] = byte(b)
	}
	for i := range api.MaxMembers - 2 {
		data := slices.Repeat([]string{strings.Repeat("\x00", 256)}, api.MaxMembers-2)
		data[i] = string(all)
		want := make([]byte, 256)
		for b := range want {
			want[b] = times(byte(b), i)
		}
		p, q, e := Make(data)
		hold(t, "Make", p, q, e, string(all), string(want), api.OK)
	}
}

func TestErrorsOfMakeP4_1(t *testing.T) {
	long, full := sample(api.MaxBuffer+1, 1), sample(api.MaxBuffer, 2)
	many := slices.Repeat([]string{"a"}, api.MaxMembers-2)
	for i, x := range []struct {
		data []string
		want api.Errno
	}{
		{nil, api.ErrRange},
		{[]string{}, api.ErrRange},
		{[]string{""}, api.ErrRange},
		{[]string{"a"}, api.ErrRange},
		{[]string{long}, api.ErrRange}, // too few, ahead of too long
		{append(slices.Clone(many), "a"), api.ErrRange},
		{append(slices.Clone(many), "ab"), api.ErrRange},
		{append(slices.Clone(many), long), api.ErrRange},
		{make([]string, api.MaxMembers), api.ErrRange},
		{make([]string, 1000), api.ErrRange},
		{[]string{"a", long}, api.ErrArg},
		{[]string{long, "a"}, api.ErrArg},
		{[]string{long, long}, api.ErrArg},
		{[]string{full, long}, api.ErrArg},
		{[]string{"a", "bc", long}, api.ErrArg}, // too long, ahead of unlike
		{append(slices.Clone(many[1:]), long), api.ErrArg},
		{[]string{"a", "bc"}, api.ErrForm},
		{[]string{"ab", "c"}, api.ErrForm},
		{[]string{"", "a"}, api.ErrForm},
		{[]string{"a", ""}, api.ErrForm},
		{[]string{"a", "b", ""}, api.ErrForm},
		{[]string{"1234567", "12345678"}, api.ErrForm},
		{[]string{full, full[1:]}, api.ErrForm},
		{append(slices.Clone(many[1:]), "ab"), api.ErrForm},
	} {
		p, q, e := Make(x.data)
		if p != "" || q != "" || e != x.want {
			t.Errorf("%d: Make is %d and %d bytes and %v, want %v", i, len(p), len(q), e, x.want)
		}
	}
}

func TestPowerP4_1(t *testing.T) {
	weights := []byte{
		0x01, 0x02, 0x04, 0x08, 0x10, 0x20, 0x40, 0x80, 0x1d, 0x3a,
		0x74, 0xe8, 0xcd, 0x87, 0x13, 0x26, 0x4c, 0x98, 0x2d, 0x5a,
		0xb4, 0x75, 0xea, 0xc9, 0x8f, 0x03, 0x06, 0x0c, 0x18, 0x30,
	}
	if len(weights) != api.MaxMembers-2 {
		t.Fatalf("%d weights are told, want %d", len(weights), api.MaxMembers-2)
	}
	for i, want := range weights {
		if got := Power(i); got != want {
			t.Errorf("Power(%d) is %x, want %x", i, got, want)
		}
	}
}

func TestPowerOutOfRangeP4_1(t *testing.T) {
	for _, i := range []int{math.MinInt, math.MinInt + 1, -256, -2, -1, api.MaxMembers - 2, api.MaxMembers - 1, api.MaxMembers, 255, 256, math.MaxInt - 1, math.MaxInt} {
		if got := Power(i); got != 0 {
			t.Errorf("Power(%d) is %x, want 0", i, got)
		}
	}
}

func TestDeltaP4_2(t *testing.T) {
	for _, x := range []struct {
		p, q     string
		i        int
		old, now string
		wantP    string
		wantQ    string
	}{
		{"\x01", "\x07", 2, "\x01", "\x80", "\x80", "\x39"},
		{"\x00", "\x00", 0, "\x00", "\x01", "\x01", "\x01"},
		{"\x00", "\x00", 1, "\x00", "\x80", "\x80", "\x1d"},
		{"\x00", "\x00", api.MaxMembers - 3, "\x00", "\x01", "\x01", "\x30"},
		{"ab", "cd", 7, "xy", "xy", "ab", "cd"}, // nothing is changed
		{"", "", 0, "", "", "", ""},
		{"", "", api.MaxMembers - 3, "", "", "", ""},
	} {
		p, q, e := Delta(x.p, x.q, x.i, x.old, x.now)
		hold(t, "Delta", p, q, e, x.wantP, x.wantQ, api.OK)
	}
}

// Of parities that belong to no columns at all, too, both the change and its weighted self are added.
func TestDeltaOfAnyBuffersP4_2(t *testing.T) {
	for i := range api.MaxMembers - 2 {
		for _, n := range lengths()[:12] {
			p, q, old, now := sample(n, 1), sample(n, 2), sample(n, 3), sample(n, 4)
			wantP, wantQ := make([]byte, n), make([]byte, n)
			for at := range n {
				wantP[at] = p[at] ^ old[at] ^ now[at]
				wantQ[at] = q[at] ^ times(old[at], i) ^ times(now[at], i)
			}
			gotP, gotQ, e := Delta(p, q, i, old, now)
			hold(t, "Delta", gotP, gotQ, e, string(wantP), string(wantQ), api.OK)
		}
	}
}

func TestDeltaPutsAColumnInAnothersPlaceP4_2(t *testing.T) {
	for count := 2; count <= api.MaxMembers-2; count++ {
		data := columns(count, 70, uint64(count))
		p, q, e := Make(data)
		if e != api.OK {
			t.Fatalf("Make of %d columns: %v", count, e)
		}
		for i := range data {
			now := slices.Clone(data)
			now[i] = sample(70, 1000+uint64(i))
			wantP, wantQ := parities(now)
			gotP, gotQ, e := Delta(p, q, i, data[i], now[i])
			hold(t, "Delta", gotP, gotQ, e, wantP, wantQ, api.OK)
		}
	}
}

func TestDeltaOfTheGreatestBuffersP4_2(t *testing.T) {
	data := columns(3, api.MaxBuffer, 5)
	p, q := parities(data)
	now := sample(api.MaxBuffer, 9)
	wantP, wantQ := parities([]string{data[0], data[1], now})
	gotP, gotQ, e := Delta(p, q, 2, data[2], now)
	hold(t, "Delta", gotP, gotQ, e, wantP, wantQ, api.OK)
}

func TestDeltaOutOfRangeP4_2(t *testing.T) {
	long := sample(api.MaxBuffer+1, 1)
	for _, i := range []int{math.MinInt, -256, -1, api.MaxMembers - 2, api.MaxMembers - 1, api.MaxMembers, 256, math.MaxInt} {
		for _, now := range []string{"a", "", "ab", long} { // ahead of what is wrong with the buffers
			if p, q, e := Delta("a", "a", i, "a", now); p != "" || q != "" || e != api.ErrRange {
				t.Errorf("Delta at %d is %d and %d bytes and %v, want %v", i, len(p), len(q), e, api.ErrRange)
			}
		}
	}
}

// Whichever of the four is wrong is told; one that is too long, ahead of ones of unlike lengths.
func TestErrorsOfDeltaP4_2(t *testing.T) {
	long, full := sample(api.MaxBuffer+1, 1), sample(api.MaxBuffer, 2)
	for _, x := range []struct {
		wrong, other string
		want         api.Errno
	}{
		{long, "a", api.ErrArg}, {long, "", api.ErrArg}, {long, full, api.ErrArg}, {long, long, api.ErrArg},
		{"", "a", api.ErrForm}, {"a", "", api.ErrForm}, {"ab", "a", api.ErrForm}, {"12345678", "1234567", api.ErrForm}, {full[1:], full, api.ErrForm},
	} {
		for at := range 4 {
			l := slices.Repeat([]string{x.other}, 4)
			l[at] = x.wrong
			holdDeltaError(t, l, x.want)
		}
	}
	for at := range 4 {
		for unlike := range 4 {
			l := slices.Repeat([]string{"a"}, 4)
			l[unlike] = "ab"
			l[at] = long
			holdDeltaError(t, l, api.ErrArg)
		}
	}
	holdDeltaError(t, []string{"a", "a", "ab", "ab"}, api.ErrForm)
	holdDeltaError(t, []string{"a", "ab", "a", "ab"}, api.ErrForm)
	holdDeltaError(t, []string{"ab", "a", "a", "ab"}, api.ErrForm)
}

// holdDeltaError asks Delta of four buffers, at both ends of the range.
func holdDeltaError(t *testing.T, l []string, want api.Errno) {
	t.Helper()
	for _, i := range []int{0, api.MaxMembers - 3} {
		if p, q, e := Delta(l[0], l[1], i, l[2], l[3]); p != "" || q != "" || e != want {
			t.Errorf("Delta of %d, %d, %d and %d bytes is %d and %d bytes and %v, want %v", len(l[0]), len(l[1]), len(l[2]), len(l[3]), len(p), len(q), e, want)
		}
	}
}

func TestFitsP4_3(t *testing.T) {
	for count := 2; count <= api.MaxMembers-2; count++ {
		data := columns(count, 20, uint64(count))
		p, q := parities(data)
		if !Fits(data, p, q) {
			t.Errorf("the parities of %d columns do not fit", count)
		}
		for at := range 20 {
			if Fits(data, flipped(p, at), q) {
				t.Errorf("P of %d columns fits, though its byte %d is another", count, at)
			}
			if Fits(data, p, flipped(q, at)) {
				t.Errorf("Q of %d columns fits, though its byte %d is another", count, at)
			}
		}
	}
}

// flipped is a text, the lowest bit of one byte of which is another.
func flipped(s string, at int) string {
	b := []byte(s)
	b[at] ^= 1
	return string(b)
}

func TestFitsEdgesP4_3(t *testing.T) {
	long := sample(api.MaxBuffer+1, 1)
	three := []string{"\x01", "\x01", "\x01"}
	most := slices.Repeat([]string{"\x00"}, api.MaxMembers-2)
	for i, x := range []struct {
		data []string
		p, q string
		want bool
	}{
		{three, "\x01", "\x07", true},
		{three, "\x07", "\x01", false},
		{three, "\x01", "\x01", false},
		{three, "\x07", "\x07", false},
		{three, "", "", false},
		{three, "\x01", "", false},
		{three, "", "\x07", false},
		{three, "\x01\x00", "\x07\x00", false}, // as many bytes as no column has
		{three, "\x01", "\x07\x00", false},
		{three, "\x01\x00", "\x07", false},
		{three, long, long, false},
		{[]string{"", ""}, "", "", true},
		{[]string{"", ""}, "\x00", "\x00", false},
		{most, "\x00", "\x00", true},
		// Columns such as may not be fit no parities, not even those that Make answers beside its error.
		{nil, "", "", false},
		{[]string{}, "", "", false},
		{[]string{""}, "", "", false},
		{[]string{"\x01"}, "\x01", "\x01", false},
		{append(slices.Clone(most), "\x00"), "\x00", "\x00", false},
		{make([]string, api.MaxMembers-1), "", "", false},
		{[]string{"a", ""}, "", "", false},
		{[]string{"", "a"}, "a", "a", false},
		{[]string{"\x00", "\x00\x00"}, "\x00", "\x00", false},
		{[]string{long, long}, "", "", false},
		{[]string{long, long}, strings.Repeat("\x00", len(long)), long, false},
	} {
		if got := Fits(x.data, x.p, x.q); got != x.want {
			t.Errorf("%d: Fits is %v, want %v", i, got, x.want)
		}
	}
}

func TestFitsTheGreatestBuffersP4_3(t *testing.T) {
	data := columns(2, api.MaxBuffer, 7)
	p, q := parities(data)
	if !Fits(data, p, q) {
		t.Error("the parities of the greatest buffers do not fit")
	}
	if Fits(data, p, flipped(q, api.MaxBuffer-1)) || Fits(data, flipped(p, api.MaxBuffer-1), q) {
		t.Error("parities fit, though their last byte is another")
	}
}

// What lies behind a list's length is none of the call's, and the list is left as it was.
func TestListsAreReadToTheirLengthAlone(t *testing.T) {
	l := columns(4, 9, 3)
	l[3] = "behind"
	before := slices.Clone(l)
	wantP, wantQ := parities(l[:3])
	p, q, e := Make(l[:3])
	hold(t, "Make", p, q, e, wantP, wantQ, api.OK)
	if !Fits(l[:3], wantP, wantQ) {
		t.Error("the parities of a piece of a list do not fit")
	}
	if !slices.Equal(l, before) {
		t.Errorf("the list is %q behind the calls, was %q", l, before)
	}
}

// An answer hangs on what was handed in alone: not on other calls at the same time, nor on those before.
func TestCallsAtTheSameTimeP2(t *testing.T) {
	var all sync.WaitGroup
	for seed := range uint64(16) {
		all.Go(func() {
			data := columns(2+int(seed), 40, seed)
			wantP, wantQ := parities(data)
			for range 50 {
				if p, q, e := Make(data); p != wantP || q != wantQ || e != api.OK {
					t.Errorf("Make at the same time as others: %x, %x, %v", p, q, e)
				}
			}
		})
	}
	all.Wait()
}
