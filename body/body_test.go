package body

import (
	"bytes"
	"math"
	"math/rand"
	"slices"
	"testing"

	"breviary/api"
)

// most is the greatest Node of a Cell.
const most = 1<<24 - 1

func cell(node, index int) api.Cell { return api.Cell{Node: node, Index: index} }

// nodes are such about the edges of what a Node may be, and of what wraps round in fewer bits.
func nodes() []int {
	return []int{math.MinInt, -1 << 32, -1 << 24, -most, -2, -1, 0, 1, 2, 3, 255, 256, 257, 65535, 65536, most - 1, most, most + 1, most + 2, 1 << 25, 1 << 32, 1<<32 + 1, 1 << 56, math.MaxInt}
}

// indexes are such about the edges of what an Index may be, and of what wraps round in fewer bits.
func indexes() []int {
	return []int{math.MinInt, -1 << 32, -256, -65, -64, -63, -2, -1, 0, 1, 2, 31, 32, 62, 63, 64, 65, 127, 128, 255, 256, 257, 1 << 24, 1 << 32, 1<<32 + 1, 1 << 56, math.MaxInt}
}

// eachCell goes over all of nodes with all of indexes.
func eachCell(f func(c api.Cell)) {
	for _, n := range nodes() {
		for _, i := range indexes() {
			f(cell(n, i))
		}
	}
}

// slowMay tells whether Set takes that cell, by the chapter's sentence.
func slowMay(c api.Cell) bool {
	return c.Node > 0 && c.Node < 16777216 && c.Index > -1 && c.Index < 64
}

// good are cells that may be, in no order; some stand elsewhere by Index, then Node, or by digits.
func good() []api.Cell {
	return []api.Cell{cell(2, 0), cell(most, 63), cell(1, 63), cell(10, 2), cell(1, 0), cell(9, 10), cell(256, 1), cell(9, 9), cell(255, 5), cell(65536, 0), cell(most, 0), cell(2, 63), cell(1, 5), cell(9, 1), cell(most-1, 63), cell(1, 62), cell(65535, 63)}
}

// block is so many bytes, none of them 0, that hang on seed.
func block(n, seed int) []byte {
	out := make([]byte, n)
	for i := range out {
		out[i] = byte((i*7+seed*13)%255 + 1)
	}
	return out
}

// full is b with 0s behind, byte by byte.
func full(b []byte) []byte {
	var out []byte
	for i := range 256 {
		if i < len(b) {
			out = append(out, b[i])
		} else {
			out = append(out, 0)
		}
	}
	return out
}

// held is a cell that is there.
type held struct {
	c    api.Cell
	data []byte
	lost bool
}

// slow is files' blocks in no order: each call goes over all of them.
type slow struct {
	there []held
	dirty []api.Cell
}

func (s *slow) at(c api.Cell) int {
	for i, h := range s.there {
		if h.c == c {
			return i
		}
	}
	return -1
}

func (s *slow) soil(c api.Cell) {
	s.wash(c)
	s.dirty = append(s.dirty, c)
}

func (s *slow) wash(c api.Cell) {
	s.dirty = slices.DeleteFunc(s.dirty, func(x api.Cell) bool { return x == c })
}

func (s *slow) set(c api.Cell, b []byte) error {
	if !slowMay(c) || len(b) > 256 {
		return api.ErrRange
	}
	s.del(c)
	s.there = append(s.there, held{c: c, data: full(b)})
	s.soil(c)
	return nil
}

func (s *slow) lose(c api.Cell) bool {
	i := s.at(c)
	if i >= 0 {
		s.there[i] = held{c: c, lost: true}
		s.wash(c)
	}
	return i >= 0
}

func (s *slow) del(c api.Cell) bool {
	i := s.at(c)
	if i >= 0 {
		s.there = slices.Delete(s.there, i, i+1)
		s.soil(c)
	}
	return i >= 0
}

func (s *slow) get(c api.Cell) ([]byte, error) {
	i := s.at(c)
	switch {
	case i < 0:
		return full(nil), nil
	case s.there[i].lost:
		return nil, api.ErrIO
	}
	return s.there[i].data, nil
}

func (s *slow) of(node int) []int {
	var out []int
	for i := range 64 {
		if s.at(cell(node, i)) >= 0 {
			out = append(out, i)
		}
	}
	return out
}

func (s *slow) lost() []api.Cell {
	var out []api.Cell
	for _, h := range s.there {
		if h.lost {
			out = append(out, h.c)
		}
	}
	return rising(out)
}

func (s *slow) clone() *slow {
	return &slow{slices.Clone(s.there), slices.Clone(s.dirty)}
}

// rising sets each cell behind those that it isn't ahead of.
func rising(l []api.Cell) []api.Cell {
	var out []api.Cell
	for _, c := range l {
		i := 0
		for i < len(out) && (out[i].Node < c.Node || out[i].Node == c.Node && out[i].Index < c.Index) {
			i++
		}
		out = slices.Insert(out, i, c)
	}
	return out
}

func wantCells(t *testing.T, what string, got, want []api.Cell) {
	t.Helper()
	if !slices.Equal(got, want) {
		t.Errorf("%s: %v, not %v", what, got, want)
	}
}

// wantCell holds what b tells of c against s.
func wantCell(t *testing.T, b *Body, s *slow, c api.Cell) {
	t.Helper()
	want, wantErr := s.get(c)
	if got, err := b.Get(c); !bytes.Equal(got, want) || err != wantErr {
		t.Errorf("Get(%v): %v, %v, not %v, %v", c, got, err, want, wantErr)
	}
	if want := s.at(c) >= 0; b.Has(c) != want {
		t.Errorf("Has(%v), not %v", c, want)
	}
	if got, want := b.Of(c.Node), s.of(c.Node); !slices.Equal(got, want) {
		t.Errorf("Of(%d): %v, not %v", c.Node, got, want)
	}
}

// wantBody holds all that b tells against s.
func wantBody(t *testing.T, b *Body, s *slow) {
	t.Helper()
	for _, h := range s.there {
		wantCell(t, b, s, h.c)
	}
	for _, c := range s.dirty {
		wantCell(t, b, s, c)
	}
	wantCells(t, "Dirty", b.Dirty(), rising(s.dirty))
	wantCells(t, "Lost", b.Lost(), s.lost())
}

// both is a Body, and the slow one that had the same calls.
type both struct {
	b *Body
	s *slow
}

func empty() both { return both{New(), new(slow)} }

func (x both) set(t *testing.T, c api.Cell, b []byte) {
	t.Helper()
	if got, want := x.b.Set(c, b), x.s.set(c, b); got != want {
		t.Errorf("Set(%v) of %d bytes: %v, not %v", c, len(b), got, want)
	}
}

func (x both) lose(t *testing.T, c api.Cell) {
	t.Helper()
	if got, want := x.b.Lose(c), x.s.lose(c); got != want {
		t.Errorf("Lose(%v): %v, not %v", c, got, want)
	}
}

func (x both) del(t *testing.T, c api.Cell) {
	t.Helper()
	if got, want := x.b.Del(c), x.s.del(c); got != want {
		t.Errorf("Del(%v): %v, not %v", c, got, want)
	}
}

func (x both) clean() {
	x.b.Clean()
	x.s.dirty = nil
}

func (x both) clone() both { return both{x.b.Clone(), x.s.clone()} }

// with has those cells, each another block, all dirty.
func with(t *testing.T, l ...api.Cell) both {
	t.Helper()
	x := empty()
	for i, c := range l {
		x.set(t, c, block(256-i, i))
	}
	return x
}

// mixed has each way that a cell may be in: there and clean, there and dirty, lost, gone and clean, gone and dirty.
func mixed(t *testing.T) both {
	t.Helper()
	l := good()
	x := with(t, l...)
	x.del(t, l[0])
	x.del(t, l[1])
	x.clean()
	x.lose(t, l[2])
	x.set(t, l[3], block(9, 3))
	x.lose(t, l[3])
	x.lose(t, l[4])
	x.set(t, l[4], nil)
	x.set(t, l[5], block(256, 77))
	x.del(t, l[6])
	x.lose(t, l[7])
	x.del(t, l[7])
	x.del(t, l[8])
	x.set(t, l[8], block(1, 8))
	wantBody(t, x.b, x.s)
	return x
}

// P16.1: a new one has nothing, whatever cell it is asked for; so has its clone. Each block is 0s.
func TestNewBody(t *testing.T) {
	x := empty()
	for _, b := range []*Body{x.b, x.b.Clone(), New().Clone().Clone()} {
		eachCell(func(c api.Cell) {
			wantCell(t, b, x.s, c)
			if b.Lose(c) || b.Del(c) {
				t.Errorf("Lose or Del of %v", c)
			}
		})
		b.Clean()
		wantBody(t, b, x.s)
	}
	if got, err := x.b.Get(cell(1, 0)); err != nil || len(got) != api.BlockSize || !bytes.Equal(got, make([]byte, 256)) {
		t.Error(got, err)
	}
}

// P16.1: Set takes each Node of 1 to 2^24 - 1 with each Index of 0 to 63, and no other one: then it is ErrRange, and nothing is changed.
func TestSetCells(t *testing.T) {
	eachCell(func(c api.Cell) {
		x, m := empty(), mixed(t)
		want := error(api.ErrRange)
		if slowMay(c) {
			want = nil
		}
		for _, y := range []both{x, m} {
			if err := y.b.Set(c, block(3, 1)); err != want {
				t.Errorf("Set(%v): %v, not %v", c, err, want)
			}
			y.s.set(c, block(3, 1))
			wantCell(t, y.b, y.s, c)
			wantBody(t, y.b, y.s)
		}
	})
}

// P16.1: each Index that may be is a block of its own.
func TestSetEachIndex(t *testing.T) {
	x := empty()
	for i := range api.MaxFile {
		x.set(t, cell(3, i), block(256, i))
	}
	x.set(t, cell(3, api.MaxFile), nil)
	wantBody(t, x.b, x.s)
	if got := x.b.Of(3); len(got) != api.MaxFile || len(x.b.Of(2)) > 0 || len(x.b.Of(4)) > 0 {
		t.Error(got)
	}
}

// P16.1: a block of at most BlockSize bytes, and 0s behind; one of more is ErrRange, and nothing is changed.
func TestSetLengths(t *testing.T) {
	c := cell(1, 5)
	for n := range 600 {
		x := empty()
		x.set(t, c, block(n, n))
		if x.b.Has(c) != (n <= 256) {
			t.Errorf("Set of %d bytes", n)
		}
		wantCell(t, x.b, x.s, c)
		wantBody(t, x.b, x.s)
		y := with(t, c)
		y.set(t, c, block(n, n))
		wantBody(t, y.b, y.s)
	}
	for _, n := range []int{1 << 16, 1<<16 + 1, 1 << 20} {
		m := mixed(t)
		m.set(t, c, make([]byte, n))
		wantBody(t, m.b, m.s)
	}
}

// P16.1: what lay behind a shorter block is 0s, not the elder block's bytes, nor those of a block that was lost or deleted.
func TestSetShorter(t *testing.T) {
	c := cell(7, 7)
	for n := range 257 {
		for _, between := range []func(x both){func(x both) {}, func(x both) { x.lose(t, c) }, func(x both) { x.del(t, c) }, func(x both) { x.clean() }} {
			x := with(t, c, cell(7, 8))
			between(x)
			x.set(t, c, block(n, 200))
			wantBody(t, x.b, x.s)
		}
	}
}

// P16.1: a block that is all 0s is there, and dirty, as any other.
func TestSetZeros(t *testing.T) {
	for _, b := range [][]byte{nil, {}, {0}, make([]byte, 256)} {
		x := empty()
		x.set(t, cell(1, 0), b)
		wantBody(t, x.b, x.s)
		if !x.b.Has(cell(1, 0)) || len(x.b.Dirty()) != 1 || len(x.b.Of(1)) != 1 {
			t.Error(x.b.Dirty())
		}
	}
}

// P16.1: a Set of what is there as it is makes it dirty too.
func TestSetTheSame(t *testing.T) {
	x := with(t, good()...)
	x.clean()
	for i, c := range good() {
		x.set(t, c, block(256-i, i))
		wantBody(t, x.b, x.s)
	}
	wantCells(t, "Dirty", x.b.Dirty(), rising(good()))
}

// P16.1 with P0.4: what is handed in is neither changed nor kept, and what lies behind it is not read.
func TestSetMemory(t *testing.T) {
	for _, n := range []int{0, 1, 100, 255, 256} {
		b := block(400, 5)
		x := empty()
		x.set(t, cell(1, 1), b[:n])
		if !bytes.Equal(b, block(400, 5)) {
			t.Error("it was changed")
		}
		clear(b)
		wantBody(t, x.b, x.s)
	}
}

// P16.1 with P0.4: each block handed out is new memory, spare room too, of what is there and of what is not.
func TestGetMemory(t *testing.T) {
	x := with(t, cell(1, 1), cell(1, 2))
	y := x.clone()
	for _, c := range []api.Cell{cell(1, 1), cell(1, 2), cell(1, 3), cell(0, -1)} {
		want, _ := x.s.get(c)
		one, _ := x.b.Get(c)
		other, _ := x.b.Get(c)
		third, _ := y.b.Get(c)
		for i := range one[:cap(one)] {
			one[:cap(one)][i] ^= 0xff
		}
		_ = append(one, 9, 9, 9)
		if !bytes.Equal(other, want) || !bytes.Equal(third, want) {
			t.Errorf("two Gets of %v share memory", c)
		}
		wantCell(t, x.b, x.s, c)
		wantCell(t, y.b, y.s, c)
	}
	x.set(t, cell(1, 1), nil)
	wantBody(t, x.b, x.s)
	wantBody(t, y.b, y.s)
}

// P16.1: what is lost is there, can't be read, and is not dirty; so it stays, when it is lost once more.
func TestLose(t *testing.T) {
	for _, clean := range []bool{false, true} {
		x := with(t, good()...)
		if clean {
			x.clean()
		}
		for range 2 {
			for _, c := range good() {
				x.lose(t, c)
				if got, err := x.b.Get(c); len(got) > 0 || err != api.ErrIO || !x.b.Has(c) || slices.Contains(x.b.Dirty(), c) {
					t.Errorf("Get(%v): %v, %v, and Dirty: %v", c, got, err, x.b.Dirty())
				}
				wantBody(t, x.b, x.s)
			}
		}
		wantCells(t, "Lost", x.b.Lost(), rising(good()))
		wantCells(t, "Dirty", x.b.Dirty(), nil)
	}
}

// P16.1: Lose and Del are false of what is not there, and change nothing: what was Del stays dirty.
func TestLoseAndDelOfNone(t *testing.T) {
	m := mixed(t)
	eachCell(func(c api.Cell) {
		if m.s.at(c) >= 0 {
			return
		}
		if m.b.Lose(c) || m.b.Del(c) {
			t.Errorf("Lose or Del of %v", c)
		}
		wantBody(t, m.b, m.s)
	})
	gone := with(t, cell(1, 1))
	gone.del(t, cell(1, 1))
	gone.lose(t, cell(1, 1))
	gone.del(t, cell(1, 1))
	wantCells(t, "Dirty", gone.b.Dirty(), []api.Cell{cell(1, 1)})
	gone.clean()
	gone.lose(t, cell(1, 1))
	gone.del(t, cell(1, 1))
	wantCells(t, "Dirty", gone.b.Dirty(), nil)
}

// P16.1: it is lost till it is Set or Del; by nothing else.
func TestLostTill(t *testing.T) {
	c := cell(4, 4)
	lost := func() both {
		x := with(t, c, cell(4, 5), cell(5, 4))
		x.lose(t, c)
		x.clean()
		x.lose(t, c)
		x.set(t, c, make([]byte, 257))
		x.set(t, cell(4, 5), block(3, 3))
		x.del(t, cell(5, 4))
		x.b.Get(c)
		wantBody(t, x.b, x.s)
		wantCells(t, "Lost", x.b.Lost(), []api.Cell{c})
		return x.clone()
	}
	x := lost()
	x.set(t, c, block(10, 1))
	wantBody(t, x.b, x.s)
	wantCells(t, "Lost", x.b.Lost(), nil)
	wantCells(t, "Dirty", x.b.Dirty(), []api.Cell{c, cell(4, 5), cell(5, 4)})
	y := lost()
	y.del(t, c)
	wantBody(t, y.b, y.s)
	wantCells(t, "Lost", y.b.Lost(), nil)
	wantCells(t, "Dirty", y.b.Dirty(), []api.Cell{c, cell(4, 5), cell(5, 4)})
	if y.b.Has(c) {
		t.Error("it is there")
	}
	y.set(t, c, block(256, 2))
	wantBody(t, y.b, y.s)
}

// P16.1: what is Del is not there, and is dirty, whatever it was: clean, dirty, lost.
func TestDel(t *testing.T) {
	all := good()
	for i, c := range all {
		for way := range 3 {
			x := with(t, all...)
			if way > 0 {
				x.clean()
			}
			if way > 1 {
				x.lose(t, c)
			}
			x.del(t, c)
			if x.b.Has(c) || !slices.Contains(x.b.Dirty(), c) || slices.Contains(x.b.Lost(), c) {
				t.Errorf("Del(%v): %v, %v", c, x.b.Dirty(), x.b.Lost())
			}
			x.del(t, c)
			wantBody(t, x.b, x.s)
			x.clean()
			wantBody(t, x.b, x.s)
			if got := x.b.Has(c); got || len(x.s.there) != len(all)-1 {
				t.Errorf("Has(%v): %v", c, got)
			}
			x.set(t, c, block(5, i))
			wantBody(t, x.b, x.s)
		}
	}
}

// P16.1: Of has the indexes that are there, lost ones too, rising, and no other node's.
func TestOf(t *testing.T) {
	r := rand.New(rand.NewSource(16))
	for range 200 {
		x := empty()
		for _, i := range r.Perm(64)[:r.Intn(65)] {
			x.set(t, cell(257, i), nil)
			switch r.Intn(4) {
			case 0:
				x.lose(t, cell(257, i))
			case 1:
				x.del(t, cell(257, i))
			}
		}
		x.set(t, cell(1, r.Intn(64)), nil)
		x.set(t, cell(256, r.Intn(64)), nil)
		for _, n := range append(nodes(), 258, 513) {
			if got, want := x.b.Of(n), x.s.of(n); !slices.Equal(got, want) {
				t.Fatalf("Of(%d): %v, not %v", n, got, want)
			}
		}
	}
}

// P16.1: Dirty and Lost rise by Node, then Index, in whatever order it was told; each is there once.
func TestRising(t *testing.T) {
	want := []api.Cell{cell(1, 0), cell(1, 5), cell(1, 62), cell(1, 63), cell(2, 0), cell(2, 63), cell(9, 1), cell(9, 9), cell(9, 10), cell(10, 2), cell(255, 5), cell(256, 1), cell(65535, 63), cell(65536, 0), cell(most-1, 63), cell(most, 0), cell(most, 63)}
	r := rand.New(rand.NewSource(1))
	for range 100 {
		l := append(good(), good()...)
		r.Shuffle(len(l), func(i, j int) { l[i], l[j] = l[j], l[i] })
		x := empty()
		for _, c := range l {
			x.set(t, c, nil)
		}
		wantCells(t, "Dirty", x.b.Dirty(), want)
		for _, c := range l {
			x.lose(t, c)
		}
		wantCells(t, "Lost", x.b.Lost(), want)
		wantCells(t, "Dirty", x.b.Dirty(), nil)
		for _, c := range l {
			x.del(t, c)
		}
		wantCells(t, "Dirty", x.b.Dirty(), want)
		wantCells(t, "Lost", x.b.Lost(), nil)
	}
}

// P16.1: behind Clean nothing is dirty, and all else is as it was; then what is Set or Del is dirty anew.
func TestClean(t *testing.T) {
	m := mixed(t)
	m.clean()
	wantCells(t, "Dirty", m.b.Dirty(), nil)
	m.clean()
	wantBody(t, m.b, m.s)
	for _, c := range good() {
		m.del(t, c)
		m.set(t, c, block(2, 2))
		m.del(t, c)
		wantBody(t, m.b, m.s)
	}
	wantCells(t, "Dirty", m.b.Dirty(), rising(good()))
}

// P16.1: a clone is as it is now, what is dirty and lost too; what is done to one of them the other one doesn't show.
func TestCloneBody(t *testing.T) {
	for _, turned := range []bool{false, true} {
		for call := range 4 {
			x := mixed(t)
			y := x.clone()
			wantBody(t, y.b, y.s)
			if turned {
				x, y = y, x
			}
			for _, c := range append(good(), cell(77, 7)) {
				switch call {
				case 0:
					x.set(t, c, block(100, 99))
				case 1:
					x.lose(t, c)
				case 2:
					x.del(t, c)
				case 3:
					x.clean()
				}
				wantBody(t, x.b, x.s)
				wantBody(t, y.b, y.s)
				wantCell(t, y.b, y.s, c)
			}
		}
	}
}

// P16.1 with P0.4: each list handed out is new memory, spare room too.
func TestListsMemory(t *testing.T) {
	for n := range 17 {
		x := empty()
		for i := range 2 * n {
			x.set(t, cell(3, i), nil)
			if i%2 == 0 {
				x.lose(t, cell(3, i))
			}
		}
		for _, list := range []func() []api.Cell{x.b.Dirty, x.b.Lost} {
			one, other := list(), list()
			want := slices.Clone(other)
			clear(one[:cap(one)])
			_ = append(one, cell(9, 9))
			wantCells(t, "another list", other, want)
		}
		one, other := x.b.Of(3), x.b.Of(3)
		clear(one[:cap(one)])
		_ = append(one, 9)
		if !slices.Equal(other, x.s.of(3)) {
			t.Error(other)
		}
		wantBody(t, x.b, x.s)
	}
}

// P16.1: scripts of calls, held against one in no order.
func TestScripts(t *testing.T) {
	for seed := range 200 {
		script := make([]byte, 900)
		rand.New(rand.NewSource(int64(seed))).Read(script)
		runScript(t, script)
	}
}

// someCell is one of a few, of which some may not be.
func someCell(a, b byte) api.Cell {
	return cell([]int{1, 2, 3, most, 0, most + 1, 1, 2}[a%8], []int{0, 1, 2, 63, 1, -1, 64, 0}[b%8])
}

// runScript does a call for each three bytes, and the same to a slow one.
func runScript(t *testing.T, script []byte) {
	t.Helper()
	x := empty()
	for ; len(script) >= 3; script = script[3:] {
		c := someCell(script[1], script[2])
		switch script[0] % 8 {
		case 0, 1, 2:
			x.set(t, c, block([]int{0, 1, 77, 255, 256, 257}[script[1]/8%6], int(script[2])))
		case 3, 4:
			x.lose(t, c)
		case 5, 6:
			x.del(t, c)
		case 7:
			if script[1]%4 == 0 {
				x.clean()
			}
			if script[1]%4 == 1 {
				old := x
				x = x.clone()
				old.b.Del(c)
				old.b.Set(cell(1, 1), block(9, 9))
				old.b.Lose(cell(2, 1))
				old.b.Clean()
			}
		}
		wantCell(t, x.b, x.s, c)
		wantBody(t, x.b, x.s)
		if t.Failed() {
			return
		}
	}
}

// FuzzBody does any script, then takes any cell and any bytes.
func FuzzBody(f *testing.F) {
	f.Add([]byte{0, 0, 0, 3, 0, 0, 5, 0, 0, 0, 32, 1, 7, 0, 0, 3, 0, 1}, 1, 0, []byte("abc"))
	f.Add([]byte{0, 0, 1, 7, 1, 0, 3, 0, 1}, most, 63, make([]byte, 256))
	f.Add([]byte{}, 1<<24, -1, make([]byte, 257))
	f.Fuzz(func(t *testing.T, script []byte, node, index int, b []byte) {
		runScript(t, script[:min(len(script), 600)])
		x, c := with(t, cell(1, 0), cell(2, 1)), cell(node, index)
		x.clean()
		wantCell(t, x.b, x.s, c)
		x.set(t, c, b)
		wantCell(t, x.b, x.s, c)
		wantBody(t, x.b, x.s)
		x.lose(t, c)
		wantCell(t, x.b, x.s, c)
		wantBody(t, x.b, x.s)
		x.del(t, c)
		wantCell(t, x.b, x.s, c)
		wantBody(t, x.b, x.s)
	})
}
