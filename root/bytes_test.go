package root

import (
	"bytes"
	"math"
	"math/rand"
	"slices"
	"testing"

	"breviary/api"
	"breviary/crc"
)

// same tells whether two roots are; no Refs and empty ones are the same.
func same(a, b Root) bool { return a.Epoch == b.Epoch && slices.Equal(a.Refs, b.Refs) }

func none(r Root) bool { return r.Epoch == 0 && len(r.Refs) == 0 }

// refs are n of them, each another one; the last ones have the greatest numbers.
func refs(n int) []api.Ref {
	out := make([]api.Ref, n)
	for i := range out {
		out[i] = api.Ref{Addr: api.MaxBlocks - 300*(n-1-i), Sum: math.MaxUint32 - 0x01020304*uint32(n-1-i)}
	}
	return out
}

func laidOf(t *testing.T, r Root) []byte {
	t.Helper()
	b, err := Bytes(r)
	if err != nil || len(b) != api.BlockSize {
		t.Fatalf("Bytes(%v): %d bytes, %v", r, len(b), err)
	}
	return b
}

// isRoot holds what Read says of b against want.
func isRoot(t *testing.T, b []byte, want Root) {
	t.Helper()
	if r, is := Read(b); !is || !same(r, want) {
		t.Errorf("Read: %v %v, not %v", r, is, want)
	}
}

// isNone holds that b is no root, with nothing beside that.
func isNone(t *testing.T, b []byte) {
	t.Helper()
	if r, is := Read(b); is || !none(r) {
		t.Errorf("Read of %d bytes: %v %v", len(b), r, is)
	}
}

// someRoots are the least, the greatest, and some between.
func someRoots() []Root {
	return []Root{
		{Epoch: 1},
		{Epoch: 2, Refs: make([]api.Ref, 16)},
		{Epoch: 77, Refs: []api.Ref{{}, {Addr: 5, Sum: 1}}},
		{Epoch: 255, Refs: refs(1)},
		{Epoch: 1<<40 - 1, Refs: refs(15)},
		{Epoch: 1 << 40},
		{Epoch: 1 << 40, Refs: refs(16)},
	}
}

// P6.1: ErrRange of an Epoch, with nothing beside; ahead of ErrMany.
func TestBytesEpoch(t *testing.T) {
	for _, e := range []int64{0, -1, -2, -1 << 40, math.MinInt64, 1<<40 + 1, 1<<40 + 2, 1 << 41, 1 << 48, 1<<48 + 1, 1 << 56, math.MaxInt64} {
		for _, n := range []int{0, 1, 16, 17, 100} {
			if b, err := Bytes(Root{Epoch: e, Refs: refs(n % 17)}); len(b) > 0 || err != api.ErrRange {
				t.Errorf("Epoch %d, %d Refs: %d bytes, %v", e, n%17, len(b), err)
			}
			if b, err := Bytes(Root{Epoch: e, Refs: make([]api.Ref, n)}); len(b) > 0 || err != api.ErrRange {
				t.Errorf("Epoch %d, %d Refs: %d bytes, %v", e, n, len(b), err)
			}
		}
	}
}

// P6.1: ErrRange of an Addr, whichever of the Refs has it; ahead of ErrMany.
func TestBytesAddr(t *testing.T) {
	for _, addr := range []int{-1, -2, -api.MaxBlocks, math.MinInt, api.MaxBlocks + 1, api.MaxBlocks + 2, 1 << 13, 1 << 16, 1<<16 + 1, 1 << 32, math.MaxInt} {
		for _, n := range []int{1, 2, 16, 17, 18, 300} {
			for _, at := range []int{0, n / 2, n - 1} {
				r := Root{Epoch: 1, Refs: make([]api.Ref, n)}
				r.Refs[at].Addr = addr
				if b, err := Bytes(r); len(b) > 0 || err != api.ErrRange {
					t.Errorf("Addr %d at %d of %d: %d bytes, %v", addr, at, n, len(b), err)
				}
			}
		}
	}
}

// P6.1: more than 16 Refs are ErrMany, 16 are not.
func TestBytesMany(t *testing.T) {
	for _, n := range []int{17, 18, 32, 256, 257, 272, 1 << 16} {
		if b, err := Bytes(Root{Epoch: 1 << 40, Refs: make([]api.Ref, n)}); len(b) > 0 || err != api.ErrMany {
			t.Errorf("%d Refs: %d bytes, %v", n, len(b), err)
		}
	}
	for n := range 17 {
		r := Root{Epoch: 3, Refs: refs(n)}
		isRoot(t, laidOf(t, r), r)
	}
}

// P6.1: each number comes back, bit by bit, at each of the places.
func TestBytesBack(t *testing.T) {
	for _, r := range someRoots() {
		isRoot(t, laidOf(t, r), r)
	}
	for k := range 41 {
		for _, r := range []Root{{Epoch: 1 << k}, {Epoch: 1<<k - 1 + 1<<(k%40), Refs: refs(3)}} {
			isRoot(t, laidOf(t, r), r)
		}
	}
	for at := range 16 {
		r := Root{Epoch: 9, Refs: refs(16)}
		for k := range 32 {
			r.Refs[at].Sum = 1 << k
			isRoot(t, laidOf(t, r), r)
		}
		for addr := range api.MaxBlocks + 1 {
			r.Refs[at].Addr = addr
			isRoot(t, laidOf(t, r), r)
		}
	}
}

// P6.1: no Refs are laid as empty ones; what is laid hangs on the root alone.
func TestBytesEmpty(t *testing.T) {
	if !bytes.Equal(laidOf(t, Root{Epoch: 5}), laidOf(t, Root{Epoch: 5, Refs: []api.Ref{}})) {
		t.Error("nil and empty differ")
	}
	for _, r := range someRoots() {
		if !bytes.Equal(laidOf(t, r), laidOf(t, Root{Epoch: r.Epoch, Refs: slices.Clone(r.Refs)})) {
			t.Error(r, "is laid in two ways")
		}
	}
}

// P6.1: what has not BlockSize bytes is none, though a root's are its beginning or its end.
func TestReadLength(t *testing.T) {
	for _, r := range someRoots() {
		b := laidOf(t, r)
		for n := range api.BlockSize {
			isNone(t, b[:n])
			isNone(t, b[api.BlockSize-n:])
		}
		isNone(t, append(slices.Clone(b), 0))
		isNone(t, append([]byte{0}, b...))
		isNone(t, append(slices.Clone(b), b...))
		isNone(t, append(slices.Clone(b), make([]byte, api.BlockSize)...))
	}
	isNone(t, nil)
	isNone(t, []byte{})
}

// P6.1: all 0s are none, nor are any other bytes that are all the same, or rise, or come at random.
func TestReadGarbage(t *testing.T) {
	rising := make([]byte, api.BlockSize)
	for c := range 256 {
		isNone(t, bytes.Repeat([]byte{byte(c)}, api.BlockSize))
		for i := range rising {
			rising[i] = byte(c + i)
		}
		isNone(t, rising)
	}
	x := rand.New(rand.NewSource(6))
	for range 10000 {
		b := make([]byte, api.BlockSize)
		x.Read(b)
		isNone(t, b)
		copy(b[secondAt:], b)
		isNone(t, b)
	}
}

// isItself holds that b is none, or the Bytes of what it is said to be.
func isItself(t *testing.T, b []byte) bool {
	t.Helper()
	r, is := Read(b)
	if !is {
		isNone(t, b)
		return false
	}
	if !bytes.Equal(laidOf(t, r), b) {
		t.Errorf("Read: %v, whose bytes are others", r)
	}
	return true
}

// P6.1: what Bytes lays of no root is none: both of a root's copies are turned alike, at each byte.
func TestReadBothTurned(t *testing.T) {
	for _, r := range someRoots() {
		b := laidOf(t, r)
		others := 0
		for at := range secondAt {
			for x := 1; x < 256; x++ {
				c := slices.Clone(b)
				c[at] ^= byte(x)
				c[at+secondAt] ^= byte(x)
				if isItself(t, c) {
					others++
				}
			}
		}
		if others == 0 {
			t.Error("of", r, "no other root comes")
		}
	}
}

// twice is what the numbers lay, twice.
func twice(epoch, count int64, refs ...api.Ref) []byte {
	b := appendNum(appendNum(nil, epoch, epochSize), count, countSize)
	for _, r := range refs {
		b = appendNum(appendNum(b, int64(r.Addr), addrSize), int64(r.Sum), sumSize)
	}
	b = append(b, make([]byte, secondAt-len(b))...)
	return append(b, b...)
}

// P6.1: numbers that Bytes refuses are none, laid as it would lay them.
func TestReadRefused(t *testing.T) {
	isRoot(t, twice(1, 1, refs(1)...), Root{Epoch: 1, Refs: refs(1)})
	isRoot(t, twice(1<<40, 16, refs(16)...), Root{Epoch: 1 << 40, Refs: refs(16)})
	for _, e := range []int64{0, 1<<40 + 1, 1 << 41, 1<<48 - 1} {
		isNone(t, twice(e, 0))
		isNone(t, twice(e, 1, refs(1)...))
	}
	for _, addr := range []int{api.MaxBlocks + 1, 1<<16 - 1} {
		isNone(t, twice(1, 1, api.Ref{Addr: addr}))
		isNone(t, twice(1, 16, append(refs(15), api.Ref{Addr: addr})...))
	}
	for n := range 18 {
		for count := range 256 {
			if b := twice(8, int64(count), refs(n)...); count > 16 || count < n {
				isNone(t, b)
			} else {
				isRoot(t, b, Root{Epoch: 8, Refs: append(refs(n), make([]api.Ref, count-n)...)})
			}
		}
	}
}

// P0.4: Bytes changes nothing of its Refs, nothing behind them, and keeps nothing; each answer is new.
func TestBytesMemory(t *testing.T) {
	room := refs(16)
	was := slices.Clone(room)
	r := Root{Epoch: 4, Refs: room[:2]}
	a, b := laidOf(t, r), laidOf(t, r)
	if !slices.Equal(room, was) {
		t.Error("changed")
	}
	want := slices.Clone(a)
	clear(room)
	clear(a[:cap(a)])
	if !bytes.Equal(b, want) {
		t.Error("the answers share their memory")
	}
	isRoot(t, b, Root{Epoch: 4, Refs: was[:2]})
	if room[2] = (api.Ref{Addr: -1}); !bytes.Equal(laidOf(t, Root{Epoch: 4, Refs: room[:2]}), twice(4, 2)) {
		t.Error("what lies behind the Refs is read")
	}
}

// P0.4: Read changes nothing of its bytes, and keeps nothing; each answer's Refs are new, spare room too.
func TestReadMemory(t *testing.T) {
	r := Root{Epoch: 4, Refs: refs(2)}
	room := append(laidOf(t, r), 1, 2, 3)
	was := slices.Clone(room)
	b := room[:api.BlockSize]
	x, _ := Read(b)
	y, _ := Read(b)
	if !bytes.Equal(room, was) {
		t.Error("changed")
	}
	clear(room)
	for i := range x.Refs[:cap(x.Refs)] {
		x.Refs[:cap(x.Refs)][i] = api.Ref{Addr: 7}
	}
	if !same(y, r) {
		t.Error("the answers share their memory:", y)
	}
}

// P6.2: wherever four bytes in a row, or fewer, are turned, and by whatever bits, it is none; where nothing is turned it is the root.
func TestTurned(t *testing.T) {
	x := rand.New(rand.NewSource(62))
	for _, r := range someRoots() {
		b := laidOf(t, r)
		for at := -5; at < api.BlockSize+5; at++ {
			bits := []uint32{0, math.MaxUint32, 0x01010101, 0x80808080, 0x00ffff00, 0xdeadbeef}
			for k := range 32 {
				bits = append(bits, 1<<k, x.Uint32(), math.MaxUint32>>k, math.MaxUint32<<k)
			}
			for _, y := range bits {
				if c := crc.Turned(b, at, y); bytes.Equal(c, b) {
					isRoot(t, c, r)
				} else {
					isNone(t, c)
				}
			}
		}
	}
}

// P6.2: nor is it one where four bytes are turned into those that another root has there, or other bytes in a row that the root itself has.
func TestTurnedIntoAnother(t *testing.T) {
	all := append(someRoots(), Root{Epoch: 78, Refs: []api.Ref{{}, {Addr: 5, Sum: 1}}}, Root{Epoch: 79, Refs: []api.Ref{{}, {Addr: 5, Sum: 2}}}, Root{Epoch: 79, Refs: []api.Ref{{Addr: 1}, {Addr: 5, Sum: 1}}}, Root{Epoch: 77, Refs: []api.Ref{{}}})
	zeros := make([]byte, api.BlockSize)
	for _, r := range all {
		b := laidOf(t, r)
		sources := [][]byte{zeros, slices.Concat(b[1:], b[:1]), slices.Concat(b[secondAt+1:], b[:secondAt+1])}
		for _, o := range all {
			sources = append(sources, laidOf(t, o))
		}
		for _, from := range sources {
			for at := range api.BlockSize {
				for n := 1; n <= 4 && at+n <= api.BlockSize; n++ {
					c := slices.Clone(b)
					copy(c[at:at+n], from[at:])
					if !bytes.Equal(c, b) {
						isNone(t, c)
					}
				}
			}
		}
	}
}

// P6.2: all 0s, turned, are none either: a new device's blocks do not come to be roots.
func TestTurnedZeros(t *testing.T) {
	for at := range api.BlockSize {
		for k := range 32 {
			for _, bits := range []uint32{1 << k, math.MaxUint32 >> k, math.MaxUint32 << k, 0x01010101 << k} {
				isNone(t, crc.Turned(make([]byte, api.BlockSize), at, bits))
			}
		}
	}
}

// P6.1 and P6.2: whatever bytes: a root's are its Bytes, and with four in a row turned they are none.
func FuzzRead(f *testing.F) {
	for i, r := range someRoots() {
		b, _ := Bytes(r)
		f.Add(b, i, uint32(1)<<i, i)
	}
	f.Add(make([]byte, api.BlockSize), 126, uint32(0x01010101), 127)
	f.Fuzz(func(t *testing.T, b []byte, at int, bits uint32, again int) {
		if len(b) == secondAt {
			b = append(slices.Clone(b), b...)
		}
		c := crc.Turned(b, at, bits)
		if isItself(t, b) && !bytes.Equal(b, c) {
			isNone(t, c)
		}
		isItself(t, crc.Turned(c, again, bits))
	})
}
