package record

import (
	"hash/crc32"
	"math"
	"slices"
	"strings"
	"sync"
	"testing"

	"trunnion/api"
)

// ints are numbers of all sizes: those about the edges of members, stripes, halves and bytes, and the least and greatest ones.
var ints = []int{math.MinInt, math.MinInt + 1, -1 << 32, -1 << 16, -65536 + 1, -65, -64, -33, -32, -2, -1, 0, 1, 2, 3, 4, 30, 31, 32, 33, 47, 48, 49, 62, 63, 64, 65, 95, 96, 97, 127, 128, 255, 256, 257, 1<<16 - 1, 1 << 16, 1<<16 + 1, 1 << 32, 1<<32 + 1, math.MaxInt - 1, math.MaxInt}

// seqs are numbers of batches, good ones first.
var seqs = []int64{1, 2, 255, 256, 0x01020304, 0x01020304050607, 1<<53 - 1, 1 << 53, 0, -1, -2, -1 << 53, 1<<53 + 1, 1 << 54, 1 << 62, math.MaxInt64, math.MinInt64, math.MinInt64 + 1}

// goodSeqs is how many of them are good.
const goodSeqs = 8

// block is a sector of one byte.
func block(c byte) string {
	return strings.Repeat(string([]byte{c}), 64)
}

// mixedData is a sector whose bytes all differ, and hang on a seed.
func mixedData(seed int) string {
	s := make([]byte, 64)
	for i := range s {
		s[i] = byte(i*3 + seed*7)
	}
	return string(s)
}

// batchOf is a good batch of so many writes, at most 44, that differ by a seed.
func batchOf(count, seed int) Batch {
	b := Batch{Seq: seqs[seed%goodSeqs]}
	for i := range count {
		b.Writes = append(b.Writes, Write{(i*5 + seed) % 32, (i*11 + seed*3) % 64, mixedData(i + seed)})
	}
	return b
}

// batchMayBe is the chapter's sentence on good batches, with the limits as DOC.md writes them.
func batchMayBe(b Batch) bool {
	if b.Seq < 1 || b.Seq > 9007199254740992 || len(b.Writes) > 44 {
		return false
	}
	for _, w := range b.Writes {
		if w.Member < 0 || w.Member > 31 || w.Stripe < 0 || w.Stripe > 63 || len(w.Data) != 64 {
			return false
		}
	}
	return true
}

// bytesOf is a number in so many bytes, the highest first.
func bytesOf(n uint64, size int) string {
	s := ""
	for range size {
		s = string([]byte{byte(n % 256)}) + s
		n /= 256
	}
	return s
}

// numberOf is the way back.
func numberOf(s string) uint64 {
	n := uint64(0)
	for _, c := range []byte(s) {
		n = n*256 + uint64(c)
	}
	return n
}

// sumOf is the sum of a text, by the library.
func sumOf(s string) uint64 {
	return uint64(crc32.ChecksumIEEE([]byte(s)))
}

// padded is a text with noughts up to a whole number of sectors.
func padded(s string) string {
	for len(s)%64 != 0 {
		s += "\x00"
	}
	return s
}

// sectorsIn is a text of a whole number of sectors, cut into these.
func sectorsIn(s string) []string {
	var all []string
	for ; s != ""; s = s[64:] {
		all = append(all, s[:64])
	}
	return all
}

// laid is the sectors of a batch by the chapter's words; it may be no good one, but for its Data, and its sum is given.
func laid(b Batch, sum uint64) []string {
	head := bytesOf(uint64(b.Seq), 8) + bytesOf(uint64(len(b.Writes)), 4) + bytesOf(sum, 4)
	data := ""
	for _, w := range b.Writes {
		head += bytesOf(uint64(w.Member), 2) + bytesOf(uint64(w.Stripe), 2)
		data += w.Data
	}
	return sectorsIn(padded(head) + data)
}

// batchSum is the sum of a batch's targets and Data.
func batchSum(b Batch) uint64 {
	targets, data := "", ""
	for _, w := range b.Writes {
		targets += bytesOf(uint64(w.Member), 2) + bytesOf(uint64(w.Stripe), 2)
		data += w.Data
	}
	return sumOf(targets + data)
}

// sectorsOf is the sectors of a batch, with the right sum.
func sectorsOf(b Batch) []string {
	return laid(b, batchSum(b))
}

// readOf is the chapter's sentence on Read.
func readOf(sectors []string) (Batch, api.Errno) {
	if len(sectors) == 0 {
		return Batch{}, api.ErrForm
	}
	for _, s := range sectors {
		if len(s) != 64 {
			return Batch{}, api.ErrForm
		}
	}
	count := numberOf(sectors[0][8:12])
	if count > 96 {
		return Batch{}, api.ErrForm
	}
	heads := len(padded(strings.Repeat("x", 16+4*int(count)))) / 64
	if len(sectors) != heads+int(count) {
		return Batch{}, api.ErrForm
	}
	all := strings.Join(sectors, "")
	targets := all[16 : 16+4*count]
	if numberOf(all[12:16]) != sumOf(targets+all[heads*64:]) {
		return Batch{}, api.ErrSum
	}
	b := Batch{Seq: int64(numberOf(all[:8]))}
	for i := range int(count) {
		b.Writes = append(b.Writes, Write{int(numberOf(targets[4*i : 4*i+2])), int(numberOf(targets[4*i+2 : 4*i+4])), sectors[heads+i]})
	}
	if !batchMayBe(b) || !slices.Equal(sectorsOf(b), sectors) {
		return Batch{}, api.ErrForm
	}
	return b, api.OK
}

// sameBatch tells if two batches say the same; it makes no difference if an empty list is nil.
func sameBatch(a, b Batch) bool {
	return a.Seq == b.Seq && slices.Equal(a.Writes, b.Writes)
}

// reads asks for sectors, and holds the answer against the chapter's sentence, and against what is wanted.
func reads(t *testing.T, sectors []string, want api.Errno) {
	t.Helper()
	b, e := Read(sectors)
	model, modelE := readOf(sectors)
	if e != want || modelE != want || !sameBatch(b, model) {
		t.Errorf("Read(%q) is %#v, %v, want %#v, %v", sectors, b, e, model, want)
	}
}

// with is sectors of which one byte, counted through all of them, is another one.
func with(sectors []string, at int, c byte) []string {
	all := []byte(strings.Join(sectors, ""))
	all[at] = c
	return sectorsIn(string(all))
}

// someBad are batches that aren't good, each but for one thing.
func someBad() []Batch {
	all := []Batch{{}}
	change := func(f func(b *Batch)) {
		b := batchOf(5, 2)
		f(&b)
		all = append(all, b)
	}
	for _, seq := range seqs[goodSeqs:] {
		all = append(all, Batch{Seq: seq})
		change(func(b *Batch) { b.Seq = seq })
	}
	for _, n := range ints {
		for at := range 5 {
			if n < 0 || n > 31 {
				change(func(b *Batch) { b.Writes[at].Member = n })
			}
			if n < 0 || n > 63 {
				change(func(b *Batch) { b.Writes[at].Stripe = n })
			}
		}
	}
	for _, data := range []string{"", "x", mixedData(1)[:63], mixedData(1) + "\x00", mixedData(1) + mixedData(2), strings.Repeat("x", 1<<16)} {
		for at := range 5 {
			change(func(b *Batch) { b.Writes[at].Data = data })
		}
	}
	// Of the right length both together.
	change(func(b *Batch) { b.Writes[1].Data, b.Writes[2].Data = strings.Repeat("x", 63), strings.Repeat("x", 65) })
	for _, count := range []int{45, 46, 47, 48, 49, 64, 95, 96, 97, 98, 300, 70000} {
		all = append(all, batchOf(count, 1))
	}
	return all
}

func TestLayWrittenOutP14_1(t *testing.T) {
	b := Batch{Seq: 0x11223344556677, Writes: []Write{{31, 63, block('a')}, {0, 1, block('b')}, {16, 0, mixedData(1)}}}
	targets := "\x00\x1f\x00\x3f" + "\x00\x00\x00\x01" + "\x00\x10\x00\x00"
	sum := bytesOf(sumOf(targets+block('a')+block('b')+mixedData(1)), 4)
	want := []string{"\x00\x11\x22\x33\x44\x55\x66\x77" + "\x00\x00\x00\x03" + sum + targets + strings.Repeat("\x00", 36), block('a'), block('b'), mixedData(1)}
	if got, e := Lay(b); e != api.OK || !slices.Equal(got, want) {
		t.Errorf("% x, %v, want % x", got, e, want)
	}
	// Of no bytes the sum is 0.
	want = []string{"\x00\x20\x00\x00\x00\x00\x00\x00" + strings.Repeat("\x00", 56)}
	if got, e := Lay(Batch{Seq: 1 << 53}); e != api.OK || !slices.Equal(got, want) {
		t.Errorf("without writes: % x, %v, want % x", got, e, want)
	}
	want[0] = "\x00\x00\x00\x00\x00\x00\x00\x01" + strings.Repeat("\x00", 56)
	if got, e := Lay(Batch{Seq: 1, Writes: []Write{}}); e != api.OK || !slices.Equal(got, want) {
		t.Errorf("with an empty list: % x, %v, want % x", got, e, want)
	}
}

func TestLayOfEachCountP14_1(t *testing.T) {
	for count := range 45 {
		for seed := range goodSeqs {
			b := batchOf(count, seed)
			if got, e := Lay(b); e != api.OK || !slices.Equal(got, sectorsOf(b)) {
				t.Fatalf("Lay(%#v) is %q, %v, want %q", b, got, e, sectorsOf(b))
			}
		}
	}
	// Heads that are just full, and those that are a write too long; and the most that fit a half.
	for _, x := range [][2]int{{0, 1}, {12, 13}, {13, 15}, {28, 30}, {29, 32}, {44, 47}} {
		if got, e := Lay(batchOf(x[0], 1)); e != api.OK || len(got) != x[1] {
			t.Errorf("%d writes have %d sectors, %v, want %d", x[0], len(got), e, x[1])
		}
	}
}

func TestLayOfEachTargetP14_1(t *testing.T) {
	for member := range 32 {
		for stripe := range 64 {
			b := Batch{Seq: 3, Writes: []Write{{member, stripe, block('x')}}}
			if got, e := Lay(b); e != api.OK || !slices.Equal(got, sectorsOf(b)) {
				t.Fatalf("Lay(%#v) is %q, %v", b, got, e)
			}
		}
	}
	// A target may stand there twice: the writes are as they are, in order.
	b := Batch{Seq: 3, Writes: []Write{{1, 2, block('x')}, {1, 2, block('y')}, {0, 0, block('x')}, {1, 2, block('y')}}}
	if got, e := Lay(b); e != api.OK || !slices.Equal(got, sectorsOf(b)) {
		t.Errorf("Lay(%#v) is %q, %v", b, got, e)
	}
}

func TestLayOfNoGoodBatchP14_1(t *testing.T) {
	for _, b := range someBad() {
		if batchMayBe(b) {
			t.Fatalf("%#v is good", b)
		}
		if got, e := Lay(b); e != api.ErrForm || len(got) != 0 {
			t.Errorf("Lay(%#v) is %q, %v", b, got, e)
		}
	}
}

func TestLayOfEachNumberP14_1(t *testing.T) {
	for i, seq := range seqs {
		b := Batch{Seq: seq, Writes: []Write{{1, 2, block('x')}}}
		want := api.ErrForm
		if i < goodSeqs {
			want = api.OK
		}
		if got, e := Lay(b); e != want || (len(got) == 2) != (e == api.OK) {
			t.Errorf("of the number %d: %q, %v", seq, got, e)
		}
	}
}

func TestReadOfWhatWasLaidP14_1(t *testing.T) {
	for count := range 45 {
		for seed := range goodSeqs {
			b := batchOf(count, seed)
			if got, e := Read(sectorsOf(b)); e != api.OK || !sameBatch(b, got) {
				t.Fatalf("Read of the sectors of %#v is %#v, %v", b, got, e)
			}
		}
	}
}

func TestReadOfNoneP14_1(t *testing.T) {
	reads(t, nil, api.ErrForm)
	reads(t, []string{}, api.ErrForm)
	reads(t, []string{""}, api.ErrForm)
	reads(t, []string{"", "", ""}, api.ErrForm)
}

func TestReadOfOtherLengthsP14_1(t *testing.T) {
	for _, count := range []int{0, 1, 3, 13} {
		all := sectorsOf(batchOf(count, 1))
		for at := range all {
			for _, s := range []string{"", all[at][:1], all[at][:11], all[at][:63], all[at] + "\x00", all[at] + all[at]} {
				one := slices.Clone(all)
				one[at] = s
				reads(t, one, api.ErrForm)
			}
		}
	}
	// All bytes are there, but not as sectors.
	all := strings.Join(sectorsOf(batchOf(2, 1)), "")
	reads(t, []string{all}, api.ErrForm)
	reads(t, []string{all[:63], all[63:128], all[128:]}, api.ErrForm)
	reads(t, []string{all[:64], all[64:129], all[129:]}, api.ErrForm)
	reads(t, []string{all[:64], all[64:]}, api.ErrForm)
	reads(t, []string{all[:64], all[64:128], all[128:], ""}, api.ErrForm)
}

func TestReadOfOtherCountsP14_1(t *testing.T) {
	for _, count := range []int{0, 1, 2, 12, 13, 14, 28, 29, 43, 44} {
		all := sectorsOf(batchOf(count, 1))
		for n := range len(all) {
			reads(t, all[:n], api.ErrForm)
		}
		reads(t, append(slices.Clone(all), block(0)), api.ErrForm)
		reads(t, append(slices.Clone(all), all...), api.ErrForm)
		for _, told := range []uint64{0, 1, 2, 11, 12, 13, 14, 27, 28, 29, 30, 42, 43, 44, 45, 95, 96, 97, 255, 256, 1 << 8, 1 << 16, 1 << 24, 1<<24 + 2, 1<<31 - 1, 1 << 31, 1<<31 + 2, 1<<32 - 2, 1<<32 - 1} {
			if told != uint64(count) {
				one := slices.Clone(all)
				one[0] = one[0][:8] + bytesOf(told, 4) + one[0][12:]
				reads(t, one, api.ErrForm)
			}
		}
	}
	// Numbers of which the Need is 0, and other ones that no list is long enough for.
	for _, told := range []uint64{97, 1 << 31, 1<<32 - 1} {
		head := bytesOf(1, 8) + bytesOf(told, 4) + strings.Repeat("\x00", 52)
		for _, n := range []int{0, 1, 7, 97, 103, 104} {
			reads(t, append([]string{head}, slices.Repeat([]string{block(0)}, n)...), api.ErrForm)
		}
	}
}

// TestReadOfMoreWritesThanMayBeP14_1: their sum is looked at, as of others, and then they are refused.
func TestReadOfMoreWritesThanMayBeP14_1(t *testing.T) {
	for count := 45; count <= 96; count++ {
		b := batchOf(count, 1)
		reads(t, sectorsOf(b), api.ErrForm)
		reads(t, laid(b, batchSum(b)^1), api.ErrSum)
	}
	reads(t, sectorsOf(batchOf(97, 1)), api.ErrForm)
	b := batchOf(97, 1)
	reads(t, laid(b, batchSum(b)^1), api.ErrForm)
}

// TestReadOfAChangedBitP14_1: what is answered of sectors of which one bit is another one hangs on where that stands.
func TestReadOfAChangedBitP14_1(t *testing.T) {
	for _, count := range []int{0, 1, 2, 12, 13} {
		b := batchOf(count, 3)
		all := sectorsOf(b)
		heads := len(all) - count
		for at := range 64 * len(all) {
			for bit := range 8 {
				one := with(all, at, strings.Join(all, "")[at]^1<<bit)
				switch {
				case at < 8:
					other := Batch{Seq: b.Seq ^ 1<<(8*(7-at)+bit), Writes: b.Writes}
					if got, e := Read(one); (e == api.OK) != batchMayBe(other) || e == api.OK && !sameBatch(got, other) || e != api.OK && e != api.ErrForm {
						t.Fatalf("of another number: %#v, %v", got, e)
					}
				case at < 12 || at >= 16+4*count && at < 64*heads:
					reads(t, one, api.ErrForm)
				default:
					reads(t, one, api.ErrSum)
				}
			}
		}
	}
}

func TestReadNamesTheSumFirstP14_1(t *testing.T) {
	for _, b := range someBad() {
		whole := len(b.Writes) <= 96
		for _, w := range b.Writes {
			whole = whole && len(w.Data) == 64
		}
		if whole {
			reads(t, sectorsOf(b), readError(b))
			reads(t, laid(b, batchSum(b)^1<<31), api.ErrSum)
			reads(t, laid(b, 0), zeroSumError(b))
		}
	}
	b := batchOf(3, 1)
	reads(t, with(laid(b, batchSum(b)+1), 63, 1), api.ErrSum) // the noughts are wrong too
	all := laid(b, batchSum(b)+1)
	reads(t, all[:3], api.ErrForm) // but how many there are is looked at first
	all[2] = all[2][1:]
	reads(t, all, api.ErrForm)
}

// readError is what Read says of the sectors of a batch that isn't good, whose numbers may have been cut off to their bytes.
func readError(b Batch) api.Errno {
	for _, w := range b.Writes {
		if m, s := uint16(w.Member), uint16(w.Stripe); m > 31 || s > 63 {
			return api.ErrForm
		}
	}
	if b.Seq < 1 || b.Seq > 1<<53 || len(b.Writes) > 44 {
		return api.ErrForm
	}
	return api.OK
}

// zeroSumError is what Read says when the sum is written as 0, which is that of no bytes.
func zeroSumError(b Batch) api.Errno {
	if len(b.Writes) == 0 {
		return readError(b)
	}
	return api.ErrSum
}

func TestReadOfOrderP14_1(t *testing.T) {
	b := Batch{Seq: 7, Writes: []Write{{1, 2, block('a')}, {3, 4, block('b')}}}
	all := sectorsOf(b)
	reads(t, []string{all[0], all[2], all[1]}, api.ErrSum)
	reads(t, []string{all[1], all[0], all[2]}, api.ErrForm)
	s := all[0]
	reads(t, []string{s[:16] + s[20:24] + s[16:20] + s[24:], all[1], all[2]}, api.ErrSum)
	reads(t, []string{s[:12] + string([]byte{s[15], s[14], s[13], s[12]}) + s[16:], all[1], all[2]}, api.ErrSum)
}

// TestReadOfASumOfOtherBytesP14_1: the sum isn't that of what is nearly the same.
func TestReadOfASumOfOtherBytesP14_1(t *testing.T) {
	b := batchOf(3, 1)
	all := sectorsOf(b)
	data := strings.Join(all[1:], "")
	for _, s := range []string{data, all[0][16:28], all[0][16:] + data, all[0][:12] + all[0][16:28] + data, data + all[0][16:28], all[0][16:28] + data + "\x00"} {
		reads(t, laid(b, sumOf(s)), api.ErrSum)
	}
	reads(t, laid(b, uint64(^uint32(batchSum(b)))), api.ErrSum)
}

func TestReadOfNoGoodBatchP14_1(t *testing.T) {
	for _, n := range []int{32, 33, 63, 64, 255, 256, 0x1f00, 1<<15 + 1, 1<<16 - 1} {
		for at := range 3 {
			b := batchOf(3, 1)
			b.Writes[at].Member = n
			reads(t, sectorsOf(b), api.ErrForm)
			b = batchOf(3, 1)
			b.Writes[at].Stripe = n
			if n != 32 && n != 33 && n != 63 {
				reads(t, sectorsOf(b), api.ErrForm)
			} else {
				reads(t, sectorsOf(b), api.OK)
			}
		}
	}
	for i, seq := range seqs {
		want := api.ErrForm
		if i < goodSeqs {
			want = api.OK
		}
		reads(t, sectorsOf(Batch{Seq: seq}), want)
		reads(t, sectorsOf(Batch{Seq: seq, Writes: []Write{{1, 2, block('x')}}}), want)
	}
	for _, count := range []int{0, 1, 11, 13, 27} {
		all := sectorsOf(batchOf(count, 1))
		for at := 16 + 4*count; at < 64*(len(all)-count); at++ {
			reads(t, with(all, at, 1), api.ErrForm)
			reads(t, with(all, at, 0x80), api.ErrForm)
		}
	}
	reads(t, []string{block(0)}, api.ErrForm)
	reads(t, []string{block(0xff)}, api.ErrForm)
}

// markMayBe is the chapter's sentence on good marks.
func markMayBe(m Mark) bool {
	return m.Seq > 0 && m.Seq < 9007199254740993 && m.Sectors > 0 && m.Sectors < 49
}

// marked is sixteen bytes, their sum, and noughts.
func marked(s string) string {
	return s + bytesOf(sumOf(s), 4) + strings.Repeat("\x00", 44)
}

// markOf is the sector of a mark, which may be no good one, by the chapter's words.
func markOf(m Mark) string {
	return marked("MARK" + bytesOf(uint64(m.Seq), 8) + bytesOf(uint64(m.Sectors), 4))
}

func TestPutExampleP14_2(t *testing.T) {
	s, e := Put(Mark{1, 4})
	sixteen := "\x4d\x41\x52\x4b\x00\x00\x00\x00\x00\x00\x00\x01\x00\x00\x00\x04"
	if e != api.OK || s != sixteen+bytesOf(sumOf(sixteen), 4)+strings.Repeat("\x00", 44) {
		t.Errorf("the chapter's example: % x, %v", s, e)
	}
}

func TestPutP14_2(t *testing.T) {
	for _, seq := range seqs {
		for _, sectors := range ints {
			m := Mark{seq, sectors}
			s, e := Put(m)
			if markMayBe(m) && (e != api.OK || s != markOf(m)) || !markMayBe(m) && (e != api.ErrForm || s != "") {
				t.Errorf("Put(%v) is % x, %v", m, s, e)
			}
		}
	}
	for sectors := -3; sectors <= 100; sectors++ {
		want := api.ErrForm
		if sectors >= 1 && sectors <= 48 {
			want = api.OK
		}
		if s, e := Put(Mark{9, sectors}); e != want || (len(s) == 64) != (e == api.OK) {
			t.Errorf("with %d sectors: % x, %v", sectors, s, e)
		}
	}
}

// got asks for a mark that must be refused.
func got(t *testing.T, s string, want api.Errno) {
	t.Helper()
	if m, e := Get(s); e != want || m != (Mark{}) {
		t.Errorf("Get(%q) is %v, %v, want %v", s, m, e, want)
	}
}

func TestGetOfWhatWasPutP14_2(t *testing.T) {
	for _, seq := range seqs[:goodSeqs] {
		for sectors := 1; sectors <= 48; sectors++ {
			if m, e := Get(markOf(Mark{seq, sectors})); e != api.OK || m != (Mark{seq, sectors}) {
				t.Errorf("Get of the mark %d, %d is %v, %v", seq, sectors, m, e)
			}
		}
	}
}

func TestGetOfOtherLengthsP14_2(t *testing.T) {
	s := markOf(Mark{0x01020304050607, 48})
	for n := range 64 {
		got(t, s[:n], api.ErrForm)
		got(t, s[64-n:], api.ErrForm)
	}
	for _, x := range []string{s + "\x00", s + s, "\x00" + s, strings.Repeat(s, 1000), "MARK" + strings.Repeat("x", 59), "MARK" + strings.Repeat("x", 61)} {
		got(t, x, api.ErrForm)
	}
}

func TestGetOfOtherBeginningsP14_2(t *testing.T) {
	s := markOf(Mark{5, 6})
	for _, begins := range []string{"XARK", "MXRK", "MAXK", "MARX", "mark", "KRAM", "TRUN", "\x00\x00\x00\x00"} {
		got(t, begins+s[4:], api.ErrForm)           // the sum is another one too, but that is named later
		got(t, marked(begins+s[4:16]), api.ErrForm) // the sum is right
	}
	got(t, block(0), api.ErrForm)
	got(t, block(0xff), api.ErrForm)
}

func TestGetOfAChangedBitP14_2(t *testing.T) {
	for _, m := range []Mark{{1, 4}, {1 << 53, 48}, {0x01020304050607, 1}} {
		s := []byte(markOf(m))
		for at := range s {
			for bit := range 8 {
				s[at] ^= 1 << bit
				if at < 4 || at >= 20 {
					got(t, string(s), api.ErrForm)
				} else {
					got(t, string(s), api.ErrSum)
				}
				s[at] ^= 1 << bit
			}
		}
	}
}

func TestGetNamesTheSumFirstP14_2(t *testing.T) {
	for _, m := range []Mark{{0, 4}, {-1, 4}, {1<<53 + 1, 4}, {1, 0}, {1, 49}, {1, -1}, {1, 4}} {
		s := markOf(m)
		got(t, s[:19]+string([]byte{^s[19]})+s[20:], api.ErrSum)
		got(t, s[:19]+string([]byte{^s[19]})+s[20:63]+"x", api.ErrSum)
		got(t, s[:16]+string([]byte{s[19], s[18], s[17], s[16]})+s[20:], api.ErrSum)
		got(t, s[:16]+bytesOf(sumOf(s[4:16]), 4)+s[20:], api.ErrSum)
		got(t, s[:16]+strings.Repeat("\x00", 48), api.ErrSum)
	}
	got(t, "MARK"+strings.Repeat("\x00", 60), api.ErrSum)
}

func TestGetOfNoGoodMarkP14_2(t *testing.T) {
	for _, seq := range seqs {
		for _, sectors := range []uint64{0, 1, 2, 47, 48, 49, 96, 255, 256, 257, 1<<16 + 1, 1<<24 + 1, 1<<31 - 1, 1 << 31, 1<<31 + 1, 1<<32 - 1} {
			s := marked("MARK" + bytesOf(uint64(seq), 8) + bytesOf(sectors, 4))
			want := Mark{seq, int(sectors)}
			if !markMayBe(want) {
				got(t, s, api.ErrForm)
			} else if m, e := Get(s); e != api.OK || m != want {
				t.Errorf("Get(%q) is %v, %v", s, m, e)
			}
		}
	}
	s := markOf(Mark{1, 4})
	for at := 20; at < 64; at++ {
		got(t, s[:at]+"\x01"+s[at+1:], api.ErrForm)
		got(t, s[:at]+"\x80"+s[at+1:], api.ErrForm)
	}
}

func TestNewestP14_2(t *testing.T) {
	one, two, last := markOf(Mark{1, 1}), markOf(Mark{2, 2}), markOf(Mark{1 << 53, 3})
	twoToo, lastToo := markOf(Mark{2, 4}), markOf(Mark{1 << 53, 5})
	broken, behind := last[:10]+"x"+last[11:], last[:63]+"x"
	beyond, wide := markOf(Mark{1<<53 + 1, 6}), markOf(Mark{9, 49})
	for i, x := range []struct {
		sectors []string
		want    Mark // none of none
	}{
		{nil, Mark{}},
		{[]string{}, Mark{}},
		{[]string{""}, Mark{}},
		{[]string{"", broken, behind, beyond, wide, block(0), one[1:]}, Mark{}},
		{[]string{one}, Mark{1, 1}},
		{[]string{one, two}, Mark{2, 2}},
		{[]string{two, one}, Mark{2, 2}},
		{[]string{one, two, one}, Mark{2, 2}},
		{[]string{two, twoToo}, Mark{2, 2}},
		{[]string{twoToo, two}, Mark{2, 4}},
		{[]string{one, twoToo, two, twoToo}, Mark{2, 4}},
		{[]string{last, two, lastToo}, Mark{1 << 53, 3}},
		{[]string{two, lastToo, one, last}, Mark{1 << 53, 5}},
		{[]string{"", one, "", twoToo, two, ""}, Mark{2, 4}},
		{[]string{broken, one, behind, beyond, wide}, Mark{1, 1}},
		{[]string{one, broken, behind, beyond, two, wide}, Mark{2, 2}},
	} {
		if m, ok := Newest(x.sectors); m != x.want || ok != (x.want != Mark{}) {
			t.Errorf("%d: the newest is %v, %t, want %v", i, m, ok, x.want)
		}
	}
}

func TestNewestOfManyP14_2(t *testing.T) {
	var sectors []string
	for i := range 64 {
		sectors = append(sectors, markOf(Mark{int64(1 + i*17%32), 1 + i%48}))
	}
	for range sectors {
		at := slices.IndexFunc(sectors, func(s string) bool { m, _ := Get(s); return m.Seq == 32 })
		if m, ok := Newest(sectors); !ok || sectors[at] != markOf(m) {
			t.Fatalf("the newest is %v, %t", m, ok)
		}
		sectors = append(sectors[1:], sectors[0])
	}
}

// TestWhatLiesBehindALengthIsLeft: it is neither read, nor written, nor handed out.
func TestWhatLiesBehindALengthIsLeft(t *testing.T) {
	writes := []Write{{1, 2, block('a')}, {3, 4, block('b')}, {99, 99, "behind"}}
	b := Batch{Seq: 3, Writes: writes[:2]}
	all, e := Lay(b)
	if e != api.OK || !slices.Equal(all, sectorsOf(b)) || writes[2] != (Write{99, 99, "behind"}) {
		t.Errorf("Lay is %q, %v, and %v lies behind", all, e, writes[2])
	}
	sectors := append(slices.Clone(all), "behind", "it")
	if c, e := Read(sectors[:3]); e != api.OK || !sameBatch(b, c) || sectors[3] != "behind" || sectors[4] != "it" {
		t.Errorf("Read is %#v, %v, and %q", c, e, sectors)
	}
	mark := markOf(Mark{1, 1})
	marks := []string{mark, markOf(Mark{2, 2})}
	if m, ok := Newest(marks[:1]); !ok || m.Seq != 1 {
		t.Errorf("Newest reads behind the length: %v", m)
	}
}

func TestWhatIsHandedInIsLeft(t *testing.T) {
	for _, b := range append(someBad(), batchOf(44, 1)) {
		before := Batch{b.Seq, slices.Clone(b.Writes)}
		if Lay(b); !sameBatch(b, before) {
			t.Errorf("%#v became %#v", before, b)
		}
	}
	for _, sectors := range [][]string{sectorsOf(batchOf(44, 1)), sectorsOf(batchOf(50, 1)), {"", "x"}, {markOf(Mark{1, 1}), "", markOf(Mark{2, 2})}} {
		before := slices.Clone(sectors)
		Read(sectors)
		if Newest(sectors); !slices.Equal(sectors, before) {
			t.Errorf("%q became %q", before, sectors)
		}
	}
}

func TestAnswersApartP2(t *testing.T) {
	b := batchOf(13, 1)
	want := sectorsOf(b)
	one, _ := Lay(b)
	two, _ := Lay(b)
	for i := range one[:cap(one)] {
		one[:cap(one)][i] = "spoilt"
	}
	if three, _ := Lay(b); !slices.Equal(two, want) || !slices.Equal(three, want) || !sameBatch(b, batchOf(13, 1)) {
		t.Errorf("other answers became %q, %q", two, three)
	}
	first, _ := Read(want)
	second, _ := Read(want)
	for i := range first.Writes[:cap(first.Writes)] {
		first.Writes[:cap(first.Writes)][i] = Write{9, 9, "spoilt"}
	}
	if third, _ := Read(want); !sameBatch(second, b) || !sameBatch(third, b) {
		t.Errorf("other answers became %#v, %#v", second, third)
	}
}

func TestAtTheSameTime(t *testing.T) {
	b := batchOf(44, 1)
	all, mark := sectorsOf(b), markOf(Mark{1, 4})
	var workers sync.WaitGroup
	for range 8 {
		workers.Go(func() {
			for range 20 {
				laid, e := Lay(b)
				back, f := Read(all)
				m, ok := Newest([]string{mark})
				if e != api.OK || f != api.OK || !ok || m != (Mark{1, 4}) || !slices.Equal(laid, all) || !sameBatch(back, b) {
					t.Error("calls at the same time answer something else")
				}
			}
		})
	}
	workers.Wait()
}

func FuzzReadP14_1(f *testing.F) {
	f.Add(strings.Join(sectorsOf(batchOf(2, 1)), ""), true)
	f.Add(strings.Join(sectorsOf(batchOf(13, 2)), ""), false)
	f.Add(strings.Join(sectorsOf(batchOf(46, 2)), ""), false)
	f.Add("", true)
	f.Fuzz(func(t *testing.T, s string, mend bool) {
		var sectors []string
		for ; len(s) > 64; s = s[64:] {
			sectors = append(sectors, s[:64])
		}
		sectors = append(sectors, s)
		if first := sectors[0]; mend && len(first) == 64 && len(sectors) < 10 {
			// Up to nine sectors have a head of one: so the number of writes, and the sum, are made to fit.
			count := len(sectors) - 1
			sum := sumOf(first[16:16+4*count] + strings.Join(sectors[1:], ""))
			sectors[0] = first[:8] + bytesOf(uint64(count), 4) + bytesOf(sum, 4) + first[16:]
		}
		want, e := readOf(sectors)
		if b, f := Read(sectors); e != f || !sameBatch(b, want) {
			t.Errorf("Read(%q) is %#v, %v, want %#v, %v", sectors, b, f, want, e)
		}
	})
}

func FuzzGetP14_2(f *testing.F) {
	f.Add(markOf(Mark{1, 4}))
	f.Add("MARK\x00\x00\x00\x00\x00\x00\x00\x01\x00\x00\x00\x31")
	f.Fuzz(func(t *testing.T, s string) {
		if m, e := Get(s); e == api.OK && (!markMayBe(m) || markOf(m) != s) || e != api.OK && m != (Mark{}) {
			t.Errorf("Get(%q) is %v, %v", s, m, e)
		}
		if len(s) < 16 || s[:4] != "MARK" {
			return
		}
		s = marked(s[:16])
		want := Mark{int64(numberOf(s[4:12])), int(numberOf(s[12:16]))}
		if m, e := Get(s); (e == api.OK) != markMayBe(want) || e == api.OK && m != want {
			t.Errorf("Get(%q) is %v, %v, want %v", s, m, e, want)
		}
	})
}
