package span

import (
	"bytes"
	"math"
	"math/big"
	"math/rand"
	"slices"
	"testing"
)

// edges are sizes and places about which something turns, and those that a sum might turn round.
func edges() []int64 {
	out := []int64{math.MinInt64, math.MinInt64 + 1, math.MinInt64 + 256, math.MinInt32, -1 << 40, -257, -256, -255, -1}
	for i := range int64(1100) {
		out = append(out, i)
	}
	for _, about := range []int64{1 << 14, 1 << 20, 1 << 31, 1 << 32, 1 << 40, 1<<40 + 1<<20, 1 << 62} {
		for d := int64(-257); d <= 257; d++ {
			out = append(out, about+d)
		}
	}
	for d := range int64(520) {
		out = append(out, math.MaxInt64-519+d)
	}
	return out
}

// slowBlocks is the least number of blocks that have so many bytes, without bounds.
func slowBlocks(size int64) int {
	n := new(big.Int).Add(big.NewInt(size), big.NewInt(255))
	if size < 0 {
		return 0
	}
	return int(n.Rsh(n, 8).Int64())
}

// slowPieces goes from byte to byte.
func slowPieces(at int64, n int) []Piece {
	if at < 0 || n < 0 || n == 0 || n > 1048576 || at > 1099511627776 {
		return nil
	}
	var out []Piece
	for i := range int64(n) {
		index, place := int((at+i)>>8), int((at+i)&255)
		if last := len(out) - 1; last >= 0 && out[last].Index == index {
			out[last].To++
			continue
		}
		out = append(out, Piece{Index: index, From: place, To: place + 1})
	}
	return out
}

// slowCut asks of each byte whether the file has it.
func slowCut(b []byte, at, size int64) []byte {
	var out []byte
	for i, c := range b {
		place := new(big.Int).Add(big.NewInt(at), big.NewInt(int64(i)))
		if at >= 0 && place.Cmp(big.NewInt(size)) < 0 {
			out = append(out, c)
		}
	}
	return out
}

// slowLay asks of each place what lies there.
func slowLay(old []byte, p Piece, b []byte) []byte {
	none := p.From < 0 || p.From > 256 || p.To < 0 || p.To > 256 || p.To < p.From
	var out []byte
	for i := range 256 {
		switch {
		case !none && i >= p.From && i < p.To && i-p.From < len(b):
			out = append(out, b[i-p.From])
		case i < len(old):
			out = append(out, old[i])
		default:
			out = append(out, 0)
		}
	}
	return out
}

// slowWhole counts the bytes that the block has, without bounds.
func slowWhole(p Piece, size int64) bool {
	has := 0
	first := new(big.Int).Mul(big.NewInt(int64(p.Index)), big.NewInt(256))
	for i := range int64(256) {
		place := new(big.Int).Add(first, big.NewInt(i))
		if p.Index >= 0 && place.Cmp(big.NewInt(size)) < 0 {
			has++
		}
	}
	return p.From == 0 && p.To >= has
}

// rising is n bytes, no two neighbours alike.
func rising(n int, first byte) []byte {
	out := make([]byte, n)
	for i := range out {
		out[i] = first + byte(i)
	}
	return out
}

func wantBlocks(t *testing.T, size int64, want int) {
	t.Helper()
	if n := Blocks(size); n != want {
		t.Errorf("Blocks(%d): %d, not %d", size, n, want)
	}
}

func wantPieces(t *testing.T, at int64, n int, want ...Piece) {
	t.Helper()
	if l := Pieces(at, n); !slices.Equal(l, want) {
		t.Errorf("Pieces(%d, %d): %v, not %v", at, n, l, want)
	}
}

func wantCut(t *testing.T, b []byte, at, size int64, want []byte) {
	t.Helper()
	if c := Cut(b, at, size); !bytes.Equal(c, want) {
		t.Errorf("Cut of %d bytes, %d, %d: %d bytes, not %d: %q", len(b), at, size, len(c), len(want), c)
	}
}

func wantLay(t *testing.T, old []byte, p Piece, b, want []byte) {
	t.Helper()
	if l := Lay(old, p, b); !bytes.Equal(l, want) {
		t.Errorf("Lay of %d bytes, %v, %d bytes: %d bytes: %q, not %q", len(old), p, len(b), len(l), l, want)
	}
}

func wantWhole(t *testing.T, p Piece, size int64, want bool) {
	t.Helper()
	if is := Whole(p, size); is != want {
		t.Errorf("Whole(%v, %d): %v", p, size, is)
	}
}

// P13.1: each begun block counts.
func TestBlocks(t *testing.T) {
	for _, c := range []struct {
		size int64
		want int
	}{
		{math.MinInt64, 0}, {-257, 0}, {-256, 0}, {-1, 0}, {0, 0},
		{1, 1}, {2, 1}, {255, 1}, {256, 1}, {257, 2}, {511, 2}, {512, 2}, {513, 3},
		{64 * 256, 64}, {64*256 + 1, 65}, {1 << 31, 1 << 23}, {1 << 40, 1 << 32},
		{math.MaxInt64 - 255, 1<<55 - 1}, {math.MaxInt64 - 254, 1 << 55}, {math.MaxInt64, 1 << 55},
	} {
		wantBlocks(t, c.size, c.want)
	}
	for _, size := range edges() {
		wantBlocks(t, size, slowBlocks(size))
	}
}

// P13.1: the chapter's example, and bytes in one block, in two, and in more.
func TestPieces(t *testing.T) {
	wantPieces(t, 250, 10, Piece{0, 250, 256}, Piece{1, 0, 4})
	wantPieces(t, 0, 1, Piece{0, 0, 1})
	wantPieces(t, 0, 255, Piece{0, 0, 255})
	wantPieces(t, 0, 256, Piece{0, 0, 256})
	wantPieces(t, 0, 257, Piece{0, 0, 256}, Piece{1, 0, 1})
	wantPieces(t, 0, 512, Piece{0, 0, 256}, Piece{1, 0, 256})
	wantPieces(t, 1, 255, Piece{0, 1, 256})
	wantPieces(t, 1, 256, Piece{0, 1, 256}, Piece{1, 0, 1})
	wantPieces(t, 255, 1, Piece{0, 255, 256})
	wantPieces(t, 255, 2, Piece{0, 255, 256}, Piece{1, 0, 1})
	wantPieces(t, 256, 1, Piece{1, 0, 1})
	wantPieces(t, 300, 20, Piece{1, 44, 64})
	wantPieces(t, 255, 258, Piece{0, 255, 256}, Piece{1, 0, 256}, Piece{2, 0, 1})
	wantPieces(t, 63*256+10, 300, Piece{63, 10, 256}, Piece{64, 0, 54})
}

// P13.1: what is below 0, none, or too much, has no pieces; the greatest of each has.
func TestPiecesNone(t *testing.T) {
	for _, at := range []int64{math.MinInt64, -1 << 40, -257, -256, -255, -1, 1<<40 + 1, 1<<40 + 256, math.MaxInt64 - 1, math.MaxInt64} {
		for _, n := range []int{math.MinInt, -1, 0, 1, 2, 256, 1 << 20, 1<<20 + 1, math.MaxInt} {
			wantPieces(t, at, n)
		}
	}
	for _, n := range []int{math.MinInt, -1 << 20, -256, -1, 0, 1<<20 + 1, 1 << 21, 1 << 32, 1<<32 + 1, math.MaxInt - 1, math.MaxInt} {
		for _, at := range []int64{0, 1, 255, 256, 1<<40 - 1, 1 << 40} {
			wantPieces(t, at, n)
		}
	}
	wantPieces(t, 1<<40, 1, Piece{1 << 32, 0, 1})
	wantPieces(t, 1<<40, 257, Piece{1 << 32, 0, 256}, Piece{1<<32 + 1, 0, 1})
	wantPieces(t, 1<<40-1, 2, Piece{1<<32 - 1, 255, 256}, Piece{1 << 32, 0, 1})
}

// P13.1: held against a slow one, from each byte of a block, and of many lengths.
func TestPiecesAny(t *testing.T) {
	for at := range int64(258) {
		for n := range 800 {
			wantPieces(t, at, n, slowPieces(at, n)...)
		}
	}
	for _, at := range edges() {
		for _, n := range []int{-1, 0, 1, 255, 256, 257, 1024} {
			wantPieces(t, at, n, slowPieces(at, n)...)
		}
	}
	r := rand.New(rand.NewSource(13))
	for range 3000 {
		at, n := r.Int63n(1<<40+1), r.Intn(3000)
		wantPieces(t, at, n, slowPieces(at, n)...)
	}
	for _, at := range []int64{0, 1, 255, 1<<40 - 1, 1 << 40} {
		for _, n := range []int{1<<20 - 256, 1<<20 - 1, 1 << 20, 1<<20 + 1} {
			wantPieces(t, at, n, slowPieces(at, n)...)
		}
	}
}

// P13.1: the greatest n may have one block more than Blocks tells, as it needn't begin with one.
func TestPiecesGreat(t *testing.T) {
	if l := Pieces(0, 1<<20); len(l) != 4096 || l[4095] != (Piece{4095, 0, 256}) {
		t.Error(len(l))
	}
	if l := Pieces(255, 1<<20); len(l) != 4097 || l[0] != (Piece{0, 255, 256}) || l[4096] != (Piece{4096, 0, 255}) {
		t.Error(len(l))
	}
}

// P13.1: b up to the file's end, and no byte more than b has.
func TestCut(t *testing.T) {
	b := []byte("abcdef")
	for _, c := range []struct {
		at, size int64
		want     string
	}{
		{0, 6, "abcdef"}, {0, 7, "abcdef"}, {0, 5, "abcde"}, {0, 1, "a"}, {0, 0, ""},
		{10, 15, "abcde"}, {10, 16, "abcdef"}, {10, 17, "abcdef"}, {10, 11, "a"}, {10, 10, ""}, {10, 9, ""}, {10, 0, ""},
		{0, -1, ""}, {0, math.MinInt64, ""}, {5, -1, ""},
		{-1, 6, ""}, {-1, 0, ""}, {-1, -1, ""}, {-5, -1, ""}, {-1, math.MaxInt64, ""},
		{math.MinInt64, math.MaxInt64, ""}, {math.MinInt64, math.MinInt64, ""}, {math.MinInt64, 6, ""},
		{0, math.MaxInt64, "abcdef"}, {math.MaxInt64 - 6, math.MaxInt64, "abcdef"}, {math.MaxInt64 - 5, math.MaxInt64, "abcde"},
		{math.MaxInt64 - 1, math.MaxInt64, "a"}, {math.MaxInt64, math.MaxInt64, ""}, {math.MaxInt64, 0, ""}, {math.MaxInt64, math.MinInt64, ""},
		{1 << 32, 1<<32 + 2, "ab"}, {0, 1 << 32, "abcdef"}, {1 << 40, 1<<40 + 3, "abc"},
	} {
		wantCut(t, b, c.at, c.size, []byte(c.want))
	}
	for _, size := range []int64{-1, 0, 1, 256} {
		wantCut(t, nil, 0, size, nil)
		wantCut(t, []byte{}, 0, size, nil)
	}
}

// P13.1: Cut held against a slow one, about each edge.
func TestCutAny(t *testing.T) {
	b := rising(20, 'a')
	near := []int64{math.MinInt64, math.MinInt64 + 1, -21, -20, -19, -1, 0, 1, 2, 255, 256, 1 << 40, math.MaxInt64 - 20, math.MaxInt64 - 19, math.MaxInt64 - 1, math.MaxInt64}
	for _, at := range near {
		for _, size := range near {
			wantCut(t, b, at, size, slowCut(b, at, size))
		}
	}
	for at := int64(-3); at < 50; at++ {
		for size := int64(-3); size < 80; size++ {
			wantCut(t, b, at, size, slowCut(b, at, size))
		}
	}
	long := rising(3000, 0)
	for _, size := range edges() {
		wantCut(t, long, 100, size, long[:min(3000, max(100, size)-100)])
	}
}

// P13.1: a block, whatever old and b have; b's first bytes lie at From.
func TestLay(t *testing.T) {
	old := bytes.Repeat([]byte{'o'}, 256)
	for _, c := range []struct {
		p    Piece
		b    string
		from int
		want string
	}{
		{Piece{0, 2, 5}, "abc", 0, "ooabcooo"},
		{Piece{0, 2, 5}, "abcdef", 0, "ooabcooo"},
		{Piece{0, 2, 5}, "ab", 0, "ooaboooo"},
		{Piece{0, 2, 5}, "", 0, "oooooooo"},
		{Piece{0, 2, 2}, "abc", 0, "oooooooo"},
		{Piece{0, 0, 0}, "abc", 0, "oooooooo"},
		{Piece{0, 0, 1}, "abc", 0, "aooooooo"},
		{Piece{0, 0, 256}, "abc", 0, "abcooooo"},
		{Piece{0, 0, 256}, "abc\x00", 0, "abc\x00oooo"},
		{Piece{0, 255, 256}, "abc", 248, "oooooooa"},
		{Piece{0, 252, 256}, "abcdef", 248, "ooooabcd"},
		{Piece{0, 256, 256}, "abc", 248, "oooooooo"},
	} {
		want := bytes.Clone(old)
		copy(want[c.from:], c.want)
		for _, index := range []int{0, 1, 63, 1 << 32, math.MaxInt, -1, math.MinInt} {
			p := Piece{Index: index, From: c.p.From, To: c.p.To}
			wantLay(t, old, p, []byte(c.b), want)
		}
	}
	wantLay(t, nil, Piece{}, nil, make([]byte, 256))
	wantLay(t, []byte{}, Piece{}, []byte{}, make([]byte, 256))
	wantLay(t, old, Piece{0, 0, 256}, rising(256, 7), rising(256, 7))
	wantLay(t, old, Piece{0, 0, 256}, rising(1000, 7), rising(256, 7))
	wantLay(t, rising(1000, 9), Piece{}, nil, rising(256, 9))
}

// P13.1: where p is none, it is old's: 0s behind what is short, and what is above left out.
func TestLayNone(t *testing.T) {
	below := []int{math.MinInt, math.MinInt + 1, math.MinInt32, -257, -256, -1}
	above := []int{257, 258, 512, 1 << 32, 1<<32 + 4, math.MaxInt - 1, math.MaxInt}
	inside := []int{0, 1, 128, 255, 256}
	far := slices.Concat(below, above)
	for _, n := range []int{0, 1, 100, 255, 256, 257, 600} {
		old := rising(n, 1)
		want := slowLay(old, Piece{}, nil)
		for _, x := range far {
			for _, y := range slices.Concat(far, inside) {
				wantLay(t, old, Piece{0, x, y}, rising(300, 77), want)
				wantLay(t, old, Piece{0, y, x}, rising(300, 77), want)
			}
		}
		for from := range 257 {
			for _, to := range []int{0, from - 1, from / 2} {
				if to < from {
					wantLay(t, old, Piece{0, from, to}, rising(300, 77), want)
				}
			}
		}
	}
}

// P13.1: Lay held against a slow one: each piece of a block, and old and b of many lengths.
func TestLayAny(t *testing.T) {
	r := rand.New(rand.NewSource(14))
	for from := -2; from < 260; from++ {
		for to := -2; to < 260; to++ {
			old, b := rising(r.Intn(300), 'a'), rising(r.Intn(300), 200)
			p := Piece{Index: r.Intn(64), From: from, To: to}
			wantLay(t, old, p, b, slowLay(old, p, b))
		}
	}
	for n := range 300 {
		for _, p := range []Piece{{0, 0, 256}, {0, 10, 100}, {0, 250, 256}} {
			wantLay(t, rising(n, 'a'), p, rising(99, 200), slowLay(rising(n, 'a'), p, rising(99, 200)))
			wantLay(t, rising(99, 'a'), p, rising(n, 200), slowLay(rising(99, 'a'), p, rising(n, 200)))
		}
	}
}

// P13.1: what a file has of its last block is enough; of one behind it, nothing is.
func TestWhole(t *testing.T) {
	for _, c := range []struct {
		p    Piece
		size int64
		want bool
	}{
		{Piece{0, 0, 256}, 256, true}, {Piece{0, 0, 255}, 256, false}, {Piece{0, 1, 256}, 256, false},
		{Piece{0, 0, 256}, 257, true}, {Piece{0, 0, 255}, 257, false}, {Piece{0, 0, 255}, 255, true}, {Piece{0, 0, 254}, 255, false},
		{Piece{0, 0, 1}, 1, true}, {Piece{0, 0, 0}, 1, false}, {Piece{0, 0, 2}, 1, true},
		{Piece{0, 0, 0}, 0, true}, {Piece{0, 0, 9}, 0, true}, {Piece{0, 1, 9}, 0, false}, {Piece{0, 256, 256}, 0, false},
		{Piece{0, 0, 0}, -1, true}, {Piece{0, 0, 256}, -256, true}, {Piece{0, 1, 1}, -1, false}, {Piece{0, 0, 0}, math.MinInt64, true},
		{Piece{1, 0, 0}, 256, true}, {Piece{1, 0, 0}, 257, false}, {Piece{1, 0, 1}, 257, true}, {Piece{1, 1, 256}, 256, false},
		{Piece{1, 0, 255}, 512, false}, {Piece{1, 0, 256}, 512, true}, {Piece{1, 0, 0}, 0, true}, {Piece{2, 0, 0}, 257, true},
		{Piece{0, 0, 257}, 256, true}, {Piece{0, 0, math.MaxInt}, math.MaxInt64, true}, {Piece{0, -1, 256}, 256, false}, {Piece{0, math.MinInt, 256}, 256, false},
		{Piece{0, 0, -1}, 0, false}, {Piece{0, 0, math.MinInt}, -5, false}, {Piece{9, 0, -1}, 256, false},
		{Piece{-1, 0, 0}, 256, true}, {Piece{-1, 0, 0}, math.MaxInt64, true}, {Piece{-1, 0, -1}, 256, false}, {Piece{-1, 1, 256}, 256, false}, {Piece{math.MinInt, 0, 0}, 256, true}, {Piece{math.MinInt, 0, 0}, -256, true},
		{Piece{math.MaxInt, 0, 0}, math.MaxInt64, true}, {Piece{1 << 55, 0, 0}, math.MaxInt64, true}, {Piece{1 << 56, 0, 0}, 1 << 20, true},
		{Piece{1<<55 - 1, 0, 254}, math.MaxInt64, false}, {Piece{1<<55 - 1, 0, 255}, math.MaxInt64, true}, {Piece{1<<55 - 2, 0, 255}, math.MaxInt64, false},
		{Piece{1 << 32, 0, 0}, 256, true}, {Piece{1 << 24, 0, 0}, 1 << 32, true}, {Piece{1<<24 - 1, 0, 0}, 1 << 32, false},
	} {
		wantWhole(t, c.p, c.size, c.want)
	}
}

// P13.1: Whole held against a slow one, about each end that a file may have in a block.
func TestWholeAny(t *testing.T) {
	for size := int64(-3); size < 780; size++ {
		for index := -1; index < 5; index++ {
			end := int(max(0, min(256, size-int64(index)*256)))
			for _, to := range []int{-1, 0, 1, end - 1, end, end + 1, 255, 256, 257} {
				for from := -1; from < 2; from++ {
					p := Piece{index, from, to}
					if index >= 0 {
						wantWhole(t, p, size, from == 0 && to >= end)
					} else {
						wantWhole(t, p, size, from == 0 && to >= 0)
					}
				}
			}
		}
	}
	for i, size := range edges() {
		if i%7 != 0 && size > 600 && size < math.MaxInt64-300 {
			continue
		}
		last := int(size / 256)
		for _, index := range []int{last - 1, last, last + 1, math.MaxInt, math.MinInt, 1 << 55, 1 << 56} {
			for _, to := range []int{0, int(size & 255), int(size&255) - 1, 255, 256} {
				wantWhole(t, Piece{index, 0, to}, size, slowWhole(Piece{index, 0, to}, size))
			}
		}
	}
}

// P13.1: what is laid piece by piece, and cut again, is what was there.
func TestThereAndBack(t *testing.T) {
	r := rand.New(rand.NewSource(15))
	for range 400 {
		at, n := r.Intn(2000), 1+r.Intn(1024)
		file, b := rising(at+n+r.Intn(600), 'a'), rising(n, 190)
		want := bytes.Clone(file)
		copy(want[at:], b)
		blocks := make([]byte, 256*Blocks(int64(len(file))))
		copy(blocks, file)
		rest, end := b, at
		for _, p := range Pieces(int64(at), n) {
			block := blocks[256*p.Index : 256*p.Index+256]
			copy(block, Lay(block, p, rest))
			rest, end = rest[p.To-p.From:], 256*p.Index+p.To
		}
		if len(rest) != 0 || end != at+n {
			t.Fatal(at, n, len(rest), end)
		}
		wantCut(t, blocks, 0, int64(len(file)), want)
		wantCut(t, blocks[at:], int64(at), int64(at+n), b)
	}
}

// P13.1: a write is Whole in a block just where none of the file's bytes in it stays as it was.
func TestWholeIsAllAnew(t *testing.T) {
	for _, size := range []int64{0, 1, 200, 256, 257, 400, 512, 700} {
		for at := int64(0); at < 600; at += 7 {
			for _, n := range []int{1, 56, 200, 256, 300, 512, 700} {
				for _, p := range Pieces(at, n) {
					stays := p.From > 0 // a hole ahead of it stays too
					for i := range 256 {
						place := int64(p.Index)*256 + int64(i)
						stays = stays || place < size && (place < at || place >= at+int64(n))
					}
					wantWhole(t, p, size, !stays)
				}
			}
		}
	}
}

// P13.1 with P0.4: what is handed in stays, and what lies behind its length is neither read nor written.
func TestHandedInStays(t *testing.T) {
	whole := rising(900, 3)
	was := bytes.Clone(whole)
	for _, n := range []int{0, 1, 100, 255, 256, 257, 400} {
		part := whole[:n]
		for _, p := range []Piece{{}, {0, 0, 256}, {0, 5, 200}, {0, 250, 256}, {0, 200, 5}} {
			wantLay(t, part, p, whole[500:500+n], slowLay(was[:n], p, was[500:500+n]))
			wantLay(t, part, p, part, slowLay(was[:n], p, was[:n]))
			wantLay(t, part, p, whole[n/2:n], slowLay(was[:n], p, was[n/2:n]))
		}
		for _, size := range []int64{0, 1, 300, 1000, math.MaxInt64} {
			wantCut(t, part, 2, size, slowCut(was[:n], 2, size))
		}
		if !bytes.Equal(whole, was) {
			t.Fatalf("handed in, %d bytes of it: it was changed", n)
		}
	}
}

// spoil writes over all of l, its spare room too.
func spoil[T any](l []T, x T) {
	l = l[:cap(l)]
	for i := range l {
		l[i] = x
	}
}

// P13.1 with P0.4: each list handed out is new memory, spare room too.
func TestNewMemory(t *testing.T) {
	b := rising(300, 5)
	was := bytes.Clone(b)
	for _, n := range []int{0, 1, 255, 256, 300} {
		one, other := Cut(b[:n], 0, 256), Cut(b[:n], 0, 256)
		laid, again := Lay(b[:n], Piece{0, 0, 256}, b[:n]), Lay(b[:n], Piece{0, 0, 256}, b[:n])
		spoil(one, 0xee)
		spoil(laid, 0xee)
		_ = append(Lay(b[:n], Piece{}, nil), 0xee)
		if !bytes.Equal(b, was) || !bytes.Equal(other, was[:min(n, 256)]) || !bytes.Equal(again, slowLay(was[:n], Piece{}, nil)) {
			t.Fatal("of", n, "bytes: memory is shared")
		}
	}
	for _, n := range []int{1, 300, 1024, 5000} {
		one, other := Pieces(200, n), Pieces(200, n)
		spoil(one, Piece{-1, -1, -1})
		if want := slowPieces(200, n); !slices.Equal(other, want) {
			t.Fatal("Pieces share memory:", other)
		}
		wantPieces(t, 200, n, slowPieces(200, n)...)
	}
}

// P13.1 with P0.1: none panics, whatever numbers it is given.
func TestAllNumbers(t *testing.T) {
	far := []int64{math.MinInt64, math.MinInt64 + 1, -1 << 55, -1 << 32, -257, -256, -1, 0, 1, 255, 256, 257, 1 << 20, 1 << 32, 1 << 40, 1 << 55, math.MaxInt64 - 1, math.MaxInt64}
	b := rising(300, 0)
	for _, x := range far {
		for _, y := range far {
			wantPieces(t, x, int(y), slowPieces(x, int(y))...)
			wantCut(t, b[:9], x, y, slowCut(b[:9], x, y))
			wantLay(t, b, Piece{int(y), int(x), int(y)}, b[9:], slowLay(b, Piece{int(y), int(x), int(y)}, b[9:]))
			for _, z := range far {
				p := Piece{int(x), 0, int(y)}
				wantWhole(t, p, z, slowWhole(p, z))
			}
		}
	}
}

// FuzzSpans holds each call against the chapter's sentence.
func FuzzSpans(f *testing.F) {
	f.Add([]byte("abc"), []byte("de"), int64(250), int64(10), 0, 1, 2)
	f.Add([]byte{}, rising(300, 1), int64(math.MaxInt64), int64(math.MaxInt64), math.MaxInt, 0, 256)
	f.Add(rising(300, 1), []byte{}, int64(-1), int64(math.MinInt64), -1, 256, 0)
	f.Fuzz(func(t *testing.T, old, b []byte, at, size int64, index, from, to int) {
		p := Piece{index, from, to}
		near := Piece{index, from & 511, to & 511}
		wantBlocks(t, size, slowBlocks(size))
		for _, n := range []int{from, from & 4095, to} {
			wantPieces(t, at, n, slowPieces(at, n)...)
			wantPieces(t, at&(1<<40-1), n, slowPieces(at&(1<<40-1), n)...)
		}
		wantCut(t, b, at, size, slowCut(b, at, size))
		wantCut(t, b, at&511, size&511, slowCut(b, at&511, size&511))
		for _, p := range []Piece{p, near} {
			wantLay(t, old, p, b, slowLay(old, p, b))
			wantWhole(t, p, size, slowWhole(p, size))
			wantWhole(t, Piece{p.Index & 3, 0, p.To}, size&1023, slowWhole(Piece{p.Index & 3, 0, p.To}, size&1023))
		}
	})
}
