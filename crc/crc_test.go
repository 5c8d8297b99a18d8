package crc

import (
	"bytes"
	"hash/crc32"
	"math"
	"slices"
	"strings"
	"testing"
)

// slowSteps is the chapter's sentence: each bit of b, a byte's lowest first, held against the bit that goes out of s.
func slowSteps(s uint32, b []byte) uint32 {
	for _, c := range b {
		for i := range 8 {
			gone, bit := s%2, uint32(c>>i)%2
			s /= 2
			if gone != bit {
				s ^= 0x82f63b78
			}
		}
	}
	return s
}

func slowSum(b []byte) uint32 {
	return math.MaxUint32 - slowSteps(math.MaxUint32, b)
}

// mixed is size bytes without a pattern, others for another seed.
func mixed(size int, seed uint32) []byte {
	out := make([]byte, size)
	for i := range out {
		seed = seed*1664525 + 1013904223
		out[i] = byte(seed >> 24)
	}
	return out
}

func counted(size int) []byte {
	out := make([]byte, size)
	for i := range out {
		out[i] = byte(i)
	}
	return out
}

// samples are bytes of many sizes: none, few, a block, around each; all alike, rising, mixed.
func samples() [][]byte {
	out := [][]byte{nil, {}, []byte("123456789")}
	for _, size := range []int{1, 2, 3, 4, 5, 7, 8, 9, 31, 32, 33, 255, 256, 257, 1000, 5000} {
		out = append(out, make([]byte, size), bytes.Repeat([]byte{255}, size), bytes.Repeat([]byte{128}, size), counted(size), mixed(size, uint32(size)))
	}
	return out
}

// P2.1: sums that are known: the chapter's example, and those that the standards tell of CRC-32C.
func TestSumKnown(t *testing.T) {
	falling := counted(32)
	slices.Reverse(falling)
	for _, c := range []struct {
		b    []byte
		want uint32
	}{
		{nil, 0},
		{[]byte{}, 0},
		{[]byte("123456789"), 0xe3069283},
		{[]byte{0}, 0x527d5351},
		{[]byte{255}, 0xff000000},
		{[]byte("a"), 0xc1d04330},
		{make([]byte, 4), 0x48674bc7},
		{bytes.Repeat([]byte{255}, 4), 0xffffffff},
		{make([]byte, 32), 0x8a9136aa},
		{bytes.Repeat([]byte{255}, 32), 0x62a8ab43},
		{counted(32), 0x46dd794e},
		{falling, 0x113fdb5c},
	} {
		if got := Sum(c.b); got != c.want {
			t.Errorf("Sum(%v): %#x, not %#x", c.b, got, c.want)
		}
		if got := With(Table(), c.b...); got != c.want {
			t.Errorf("With(Table(), %v): %#x, not %#x", c.b, got, c.want)
		}
	}
}

// P2.1: one byte of each kind, and each behind another one.
func TestSumEachByte(t *testing.T) {
	table := Table()
	for i := range 256 {
		for _, head := range [][]byte{nil, {0}, {255}, {0x96, 7}} {
			b := append(slices.Clone(head), byte(i))
			want := slowSum(b)
			if got := Sum(b); got != want {
				t.Errorf("Sum(%v): %#x, not %#x", b, got, want)
			}
			if got := With(table, b...); got != want {
				t.Errorf("With(Table(), %v): %#x, not %#x", b, got, want)
			}
		}
	}
}

// P2.1: bytes of many sizes, as the chapter's sentence and as the library have it.
func TestSumSamples(t *testing.T) {
	table, library := Table(), crc32.MakeTable(crc32.Castagnoli)
	for _, b := range samples() {
		want := slowSum(b)
		if other := crc32.Checksum(b, library); other != want {
			t.Fatalf("the test's own sum of %d bytes: %#x, not %#x", len(b), want, other)
		}
		for range 2 {
			if got := Sum(b); got != want {
				t.Errorf("Sum of %d bytes: %#x, not %#x", len(b), got, want)
			}
			if got := With(table, b...); got != want {
				t.Errorf("With of %d bytes: %#x, not %#x", len(b), got, want)
			}
		}
	}
}

// P2.1: how many 0s there are, ahead and behind, changes the sum.
func TestSumZeros(t *testing.T) {
	seen := map[uint32]int{}
	for size := range 600 {
		s := Sum(make([]byte, size))
		if other, ok := seen[s]; ok {
			t.Errorf("%d and %d zeros: %#x", other, size, s)
		}
		seen[s] = size
	}
	if Sum([]byte{0, 5}) == Sum([]byte{5}) || Sum([]byte{5, 0}) == Sum([]byte{5}) {
		t.Error("a 0 more, the same sum")
	}
}

// P2.1: each word of the table.
func TestTableWords(t *testing.T) {
	table := Table()
	if len(table) != 256 {
		t.Fatal("words:", len(table))
	}
	library := crc32.MakeTable(crc32.Castagnoli)
	for i, got := range table {
		if want := slowSteps(0, []byte{byte(i)}); got != want || got != library[i] {
			t.Errorf("word %d: %#x, not %#x", i, got, want)
		}
	}
	for i, want := range map[int]uint32{0: 0, 1: 0xf26b8303, 2: 0xe13b70f7, 128: 0x82f63b78, 255: 0xad7d5351} {
		if table[i] != want {
			t.Errorf("word %d: %#x, not %#x", i, table[i], want)
		}
	}
}

// P2.1 with P0.4: what becomes of a table that was handed out, no other one shows, and no sum.
func TestTableNewMemory(t *testing.T) {
	want := make([]uint32, 256)
	for i := range want {
		want[i] = slowSteps(0, []byte{byte(i)})
	}
	one, other := Table(), Table()
	for i := range one {
		one[i] ^= math.MaxUint32
	}
	_ = append(one, 1, 2, 3)
	clear(one[:cap(one)])
	if !slices.Equal(other, want) || !slices.Equal(Table(), want) {
		t.Error("two tables share memory")
	}
	if Sum([]byte("123456789")) != 0xe3069283 || With(other, []byte("123456789")...) != 0xe3069283 {
		t.Error("a sum hangs on a table that was handed out")
	}
}

// P2.1: a table that has not 256 words tells 0, its spare room is none of it.
func TestWithNoTable(t *testing.T) {
	long := slices.Concat(Table(), Table())
	for _, size := range []int{0, 1, 2, 16, 128, 254, 255, 257, 258, 511, 512} {
		for _, b := range [][]byte{nil, {0}, {1, 2}, []byte("123456789"), bytes.Repeat([]byte{255}, 300)} {
			if got := With(long[:size], b...); got != 0 {
				t.Errorf("%d words, %v: %#x", size, b, got)
			}
		}
	}
	if With(nil) != 0 || With(nil, 1) != 0 || With([]uint32{}, 1) != 0 {
		t.Error("no words")
	}
	if got := With(long[:256:300], []byte("123456789")...); got != 0xe3069283 {
		t.Errorf("256 words and spare room: %#x", got)
	}
}

// P2.1: With goes by the table that it is handed, whichever it is.
func TestWithOtherTables(t *testing.T) {
	for _, polynomial := range []uint32{crc32.IEEE, crc32.Koopman, 1, math.MaxUint32} {
		library := crc32.MakeTable(polynomial)
		for _, b := range samples() {
			want := crc32.Checksum(b, library)
			if got := With(library[:], b...); got != want {
				t.Errorf("%#x, %d bytes: %#x, not %#x", polynomial, len(b), got, want)
			}
		}
	}
	same := slices.Repeat([]uint32{0}, 256)
	for size, want := range []uint32{0, 0xff000000, 0xffff0000, 0xffffff00, 0xffffffff, 0xffffffff} {
		if got := With(same, mixed(size, 1)...); got != want {
			t.Errorf("a table of 0s, %d bytes: %#x, not %#x", size, got, want)
		}
	}
}

// P2.1: one by one, or as a list, is the same.
func TestWithOneByOne(t *testing.T) {
	table := Table()
	if With(table) != 0 || With(table, nil...) != 0 {
		t.Error("of none:", With(table))
	}
	if got := With(table, '1', '2', '3', '4', '5', '6', '7', '8', '9'); got != 0xe3069283 {
		t.Errorf("one by one: %#x", got)
	}
}

// P2.1 with P0.4: Sum and With change nothing that they are handed, and don't see what lies behind it.
func TestSumMemory(t *testing.T) {
	whole, table := mixed(40, 3), Table()
	b, was, words := whole[:20], slices.Clone(whole), slices.Clone(table)
	want := slowSum(b)
	for range 3 {
		if Sum(b) != want || With(table, b...) != want {
			t.Error("not the same sum again")
		}
	}
	if !slices.Equal(whole, was) || !slices.Equal(table, words) {
		t.Error("what was handed in is changed")
	}
	clear(whole[20:])
	if Sum(b) != want || With(table, b...) != want {
		t.Error("a sum hangs on spare room")
	}
}

// slowTurned is the chapter's sentence, byte by byte of the whole.
func slowTurned(b []byte, at int, bits uint32) []byte {
	four := []byte{byte(bits), byte(bits / 256), byte(bits / 65536), byte(bits / 16777216)}
	out := []byte{}
	for i, c := range b {
		if at >= 0 && i >= at && i-at < 4 {
			c ^= four[i-at]
		}
		out = append(out, c)
	}
	return out
}

// P2.1: which bytes are turned, by which of the bits.
func TestTurnedBytes(t *testing.T) {
	b := []byte{1, 2, 3, 4, 5, 6}
	for _, c := range []struct {
		at   int
		bits uint32
		want []byte
	}{
		{0, 0x04030201, []byte{0, 0, 0, 0, 5, 6}},
		{0, 0xff, []byte{254, 2, 3, 4, 5, 6}},
		{0, 0xff00, []byte{1, 253, 3, 4, 5, 6}},
		{0, 0xff0000, []byte{1, 2, 252, 4, 5, 6}},
		{0, 0xff000000, []byte{1, 2, 3, 251, 5, 6}},
		{0, 0x80000001, []byte{0, 2, 3, 132, 5, 6}},
		{1, 0x01020408, []byte{1, 10, 7, 6, 4, 6}},
		{2, 0x06050403, []byte{1, 2, 0, 0, 0, 0}},
		{2, 0x06000003, []byte{1, 2, 0, 4, 5, 0}},
		{3, 0xff060504, []byte{1, 2, 3, 0, 0, 0}},
		{3, 0xff000000, b},
		{4, 0xffff0605, []byte{1, 2, 3, 4, 0, 0}},
		{4, 0xffff0000, b},
		{5, 0xffffff06, []byte{1, 2, 3, 4, 5, 0}},
		{5, 0xffffff00, b},
		{6, 0xffffffff, b},
		{7, 0xffffffff, b},
		{math.MaxInt, 0xffffffff, b},
		{math.MaxInt - 3, 0xffffffff, b},
		{-1, 0xffffffff, b},
		{-3, 0xffffffff, b},
		{-4, 0xffffffff, b},
		{math.MinInt, 0xffffffff, b},
		{0, 0, b},
		{5, 0, b},
		{-1, 0, b},
	} {
		if got := Turned(b, c.at, c.bits); !slices.Equal(got, c.want) {
			t.Errorf("Turned(%v, %d, %#x): %v, not %v", b, c.at, c.bits, got, c.want)
		}
	}
}

// places are those at which something may change for bytes of that size.
func places(size int) []int {
	out := []int{math.MinInt, math.MinInt + 3, -256, -size, math.MaxInt - 4, math.MaxInt - 3, math.MaxInt - 1, math.MaxInt, 1 << 31, 1 << 32, size / 2}
	for d := -6; d <= 6; d++ {
		out = append(out, d, size+d)
	}
	return out
}

// words32 are bits to turn: none, one alone, two, a byte of them, one more or less, the polynomial and pieces of it, and mixed ones.
func words32() []uint32 {
	out := []uint32{0, math.MaxUint32, 0x82f63b78, 0x05ec76f1, 0x1edc6f41, 0xaaaaaaaa, 0x55555555, 0x00ffff00, 0xff0000ff, 0x80000001}
	for i := range 32 {
		for j := range i + 1 {
			out = append(out, 1<<i|1<<j)
		}
		out = append(out, 1<<i-1, ^uint32(1<<i), 0x82f63b78<<i, 0x82f63b78>>i, 255<<i)
	}
	seed := uint32(1)
	for range 100 {
		seed = seed*1664525 + 1013904223
		out = append(out, seed)
	}
	return out
}

// P2.1 and P2.2: all places around the ends, many bits: the bytes as the slow ones, and another sum just where they are others.
func TestTurnedSamples(t *testing.T) {
	for _, b := range samples() {
		if len(b) > 257 {
			continue
		}
		sum := Sum(b)
		for _, at := range places(len(b)) {
			for _, bits := range words32() {
				got, want := Turned(b, at, bits), slowTurned(b, at, bits)
				if !slices.Equal(got, want) {
					t.Fatalf("Turned(%v, %d, %#x): %v", b, at, bits, got)
				}
				if same := slices.Equal(got, b); same != (Sum(got) == sum) {
					t.Fatalf("Turned(%v, %d, %#x): the same bytes: %v, sums %#x, %#x", b, at, bits, same, sum, Sum(got))
				}
			}
		}
	}
}

// P2.1: turned twice by the same bits it is as it was; turned at two places, each by its own.
func TestTurnedTwice(t *testing.T) {
	b := mixed(64, 5)
	for at := range b {
		for _, bits := range []uint32{1, 0x01020304, math.MaxUint32} {
			once := Turned(b, at, bits)
			if slices.Equal(once, b) || !slices.Equal(Turned(once, at, bits), b) {
				t.Errorf("at %d by %#x, and again", at, bits)
			}
		}
	}
	if got := Turned(Turned(make([]byte, 6), 0, 0x04030201), 2, 0x40302010); !slices.Equal(got, []byte{1, 2, 0x13, 0x24, 0x30, 0x40}) {
		t.Error("two places:", got)
	}
}

// P2.1 with P0.4: no bytes: none come out, wherever; and what lies behind the length is neither read nor written.
func TestTurnedNone(t *testing.T) {
	whole := []byte{7, 7, 7, 7, 7, 7, 7, 7}
	for _, at := range places(0) {
		for _, b := range [][]byte{nil, {}, whole[:0]} {
			if got := Turned(b, at, math.MaxUint32); len(got) != 0 {
				t.Errorf("at %d: %v", at, got)
			}
		}
		if got := Turned(whole[:3], at, math.MaxUint32); len(got) != 3 {
			t.Errorf("at %d: %v", at, got)
		}
	}
	if !slices.Equal(whole, []byte{7, 7, 7, 7, 7, 7, 7, 7}) {
		t.Error("what was handed in is changed:", whole)
	}
}

// P2.1 with P0.4: an answer is new memory, spare room too, also where nothing is turned.
func TestTurnedNewMemory(t *testing.T) {
	for _, at := range []int{-1, 0, 2, 5, 6, 7, 8, 9, math.MaxInt} {
		for _, bits := range []uint32{0, 0xff00, math.MaxUint32} {
			whole := mixed(16, 9)
			was := slices.Clone(whole)
			b := whole[:8]
			one, other := Turned(b, at, bits), Turned(b, at, bits)
			want := slowTurned(b, at, bits)
			if !slices.Equal(one, want) || !slices.Equal(whole, was) {
				t.Errorf("at %d by %#x: %v of %v", at, bits, one, whole)
			}
			for i := range one {
				one[i] ^= 255
			}
			_ = append(one, 1, 2, 3)
			clear(one[:cap(one)])
			if !slices.Equal(whole, was) || !slices.Equal(other, want) {
				t.Errorf("at %d by %#x: memory is shared", at, bits)
			}
			clear(whole)
			if !slices.Equal(other, want) {
				t.Errorf("at %d by %#x: what was handed in is kept", at, bits)
			}
		}
	}
}

// P2.2: a block with four bytes turned, anywhere in it.
func TestTurnedBlock(t *testing.T) {
	for _, b := range [][]byte{make([]byte, 256), bytes.Repeat([]byte{255}, 256), mixed(256, 11)} {
		sum := Sum(b)
		for at := range b {
			for _, bits := range words32() {
				got := Turned(b, at, bits)
				if !slices.Equal(got, b) && Sum(got) == sum {
					t.Fatalf("at %d by %#x: the same sum %#x", at, bits, sum)
				}
			}
		}
	}
}

// P2.2: all that two bytes in a row may be turned to, with bytes behind and without.
func TestTurnedTwoBytes(t *testing.T) {
	for _, tail := range []int{0, 1, 2, 5, 100} {
		b := mixed(2+tail, 13)
		seen := map[uint32]uint32{}
		for bits := range uint32(1 << 16) {
			s := Sum(Turned(b, 0, bits))
			if other, ok := seen[s]; ok {
				t.Fatalf("%d bytes behind: by %#x and %#x: %#x", tail, other, bits, s)
			}
			seen[s] = bits
		}
		if s := Sum(b); seen[s] != 0 {
			t.Errorf("%d bytes behind: by %#x the same sum %#x", tail, seen[s], s)
		}
	}
}

// P2.1 and P2.2: whatever bytes, place and bits.
func FuzzTurned(f *testing.F) {
	f.Add([]byte("123456789"), 5, uint32(1))
	f.Add([]byte(strings.Repeat("\x00", 256)), 253, uint32(0x82f63b78))
	f.Add([]byte{}, 0, uint32(math.MaxUint32))
	f.Add([]byte{1, 2}, math.MaxInt, uint32(9))
	f.Add([]byte{1, 2}, math.MinInt, uint32(9))
	f.Fuzz(func(t *testing.T, b []byte, at int, bits uint32) {
		was, sum := slices.Clone(b), Sum(b)
		if want := slowSum(b); sum != want || With(Table(), b...) != want {
			t.Fatalf("Sum(%v): %#x, not %#x", b, sum, want)
		}
		got := Turned(b, at, bits)
		if !slices.Equal(got, slowTurned(b, at, bits)) || !slices.Equal(b, was) {
			t.Fatalf("Turned(%v, %d, %#x): %v", b, at, bits, got)
		}
		if slices.Equal(got, b) != (Sum(got) == sum) {
			t.Fatalf("Turned(%v, %d, %#x): sums %#x, %#x", b, at, bits, sum, Sum(got))
		}
	})
}
