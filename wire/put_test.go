package wire

import (
	"bytes"
	"math"
	"math/big"
	"slices"
	"strings"
	"testing"
)

// slowPut is n's bytes worked out by division, in numbers without bounds.
func slowPut(n int64) []byte {
	u := new(big.Int).Mul(big.NewInt(n), big.NewInt(2))
	if n < 0 {
		u.Neg(u)
		u.Sub(u, big.NewInt(1))
	}
	var out []byte
	rest := new(big.Int)
	for {
		u.DivMod(u, big.NewInt(128), rest)
		if u.Sign() == 0 {
			return append(out, byte(rest.Int64()))
		}
		out = append(out, byte(rest.Int64()+128))
	}
}

// edges are the numbers at which something changes: around 0 and around each power of two, of both signs, and the least and the greatest.
func edges() []int64 {
	out := []int64{math.MinInt64, math.MinInt64 + 1, math.MaxInt64 - 1, math.MaxInt64}
	for k := range 63 {
		for d := int64(-2); d <= 2; d++ {
			out = append(out, int64(1)<<k+d, -int64(1)<<k+d)
		}
	}
	return out
}

// P1.1: the bytes themselves.
func TestPutBytes(t *testing.T) {
	full := []byte{255, 255, 255, 255, 255, 255, 255, 255, 255}
	for _, c := range []struct {
		n    int64
		want []byte
	}{
		{0, []byte{0}},
		{-1, []byte{1}},
		{1, []byte{2}},
		{-2, []byte{3}},
		{63, []byte{126}},
		{-64, []byte{127}},
		{64, []byte{128, 1}},
		{-65, []byte{129, 1}},
		{300, []byte{216, 4}},
		{8191, []byte{254, 127}},
		{-8192, []byte{255, 127}},
		{8192, []byte{128, 128, 1}},
		{-8193, []byte{129, 128, 1}},
		{1<<62 - 1, []byte{254, 255, 255, 255, 255, 255, 255, 255, 127}},
		{-1 << 62, []byte{255, 255, 255, 255, 255, 255, 255, 255, 127}},
		{1 << 62, []byte{128, 128, 128, 128, 128, 128, 128, 128, 128, 1}},
		{math.MaxInt64, append([]byte{254}, append(slices.Clone(full[:8]), 1)...)},
		{math.MinInt64, append(slices.Clone(full), 1)},
	} {
		if got := Put(nil, c.n); !slices.Equal(got, c.want) {
			t.Errorf("Put(nil, %d): %v, not %v", c.n, got, c.want)
		}
	}
}

// P1.1: each number as division lays it.
func TestPutAsByDivision(t *testing.T) {
	all := edges()
	for n := int64(-20000); n <= 20000; n++ {
		all = append(all, n)
	}
	for _, n := range all {
		if got, want := Put(nil, n), slowPut(n); !slices.Equal(got, want) {
			t.Fatalf("Put(nil, %d): %v, not %v", n, got, want)
		}
	}
}

// P1.1: what was there stands ahead.
func TestPutBehind(t *testing.T) {
	for _, head := range [][]byte{nil, {}, {0}, {128}, {255, 255, 255}, bytes.Repeat([]byte{200}, 1000)} {
		for _, n := range []int64{0, -65, math.MinInt64} {
			want := append(slices.Clone(head), slowPut(n)...)
			if got := Put(head, n); !slices.Equal(got, want) {
				t.Errorf("Put(%v, %d): %v", head, n, got)
			}
		}
		want := append(slices.Clone(head), 4, 'a', 'b')
		if got := PutText(head, "ab"); !slices.Equal(got, want) {
			t.Errorf("PutText(%v, ab): %v", head, got)
		}
	}
}

// P1.1: how many bytes (not runes), and these, whatever they are.
func TestPutTextBytes(t *testing.T) {
	for _, s := range []string{
		"", "a", "\x00", "\x00\x80\xff", "\xff\xfe", "\u00fc\u20ac", "a\nb",
		strings.Repeat("x", 63), strings.Repeat("x", 64), strings.Repeat("\x80", 8191), strings.Repeat("y", 8192), strings.Repeat("z", 70000),
	} {
		want := append(slowPut(int64(len(s))), s...)
		if got := PutText(nil, s); !slices.Equal(got, want) {
			t.Errorf("PutText of %d bytes: %.40v", len(s), got)
		}
	}
	if got := PutText([]byte{9}, "\u00fc"); !slices.Equal(got, []byte{9, 4, 0xc3, 0xbc}) {
		t.Error("a text of one rune, two bytes:", got)
	}
}

// P1.1 with P0.4: what is handed in, and the spare room behind it, stays as it is, and no two answers share memory.
func TestPutNewMemory(t *testing.T) {
	puts := []struct {
		name string
		do   func(b []byte) []byte
	}{
		{"Put", func(b []byte) []byte { return Put(b, -65) }},
		{"Put of ten bytes", func(b []byte) []byte { return Put(b, math.MinInt64) }},
		{"PutText", func(b []byte) []byte { return PutText(b, "abc") }},
		{"PutText of none", func(b []byte) []byte { return PutText(b, "") }},
	}
	for _, put := range puts {
		whole := bytes.Repeat([]byte{77}, 40)
		for _, size := range []int{0, 1, 5, 40} {
			head := whole[:size]
			one, other := put.do(head), put.do(head)
			want := slices.Clone(other)
			for i := range one {
				one[i] ^= 255
			}
			clear(one[len(one):cap(one)])
			_ = append(one, 1, 2, 3)
			if !slices.Equal(whole, bytes.Repeat([]byte{77}, 40)) {
				t.Errorf("%s: what was handed in is changed: %v", put.name, whole)
			}
			if !slices.Equal(other, want) {
				t.Errorf("%s: two answers share memory: %v", put.name, other)
			}
		}
	}
}

// P1.1 with P0.4: an answer handed in again shares nothing with the next answers.
func TestPutChainNewMemory(t *testing.T) {
	head := Put(nil, 1)
	a := Put(head, 2)
	b := Put(head, 3)
	c := PutText(head, "x")
	d := PutText(head, "y")
	for _, x := range []struct{ got, want []byte }{
		{head, []byte{2}}, {a, []byte{2, 4}}, {b, []byte{2, 6}}, {c, []byte{2, 2, 'x'}}, {d, []byte{2, 2, 'y'}},
	} {
		if !slices.Equal(x.got, x.want) {
			t.Error(x.got, x.want)
		}
	}
}
