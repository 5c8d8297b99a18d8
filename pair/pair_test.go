package pair

import (
	"bytes"
	"math"
	"slices"
	"testing"

	"breviary/api"
	"breviary/crc"
	"breviary/dev"
)

// full is a block of the byte c.
func full(c byte) []byte { return bytes.Repeat([]byte{c}, api.BlockSize) }

// rising is a block of other bytes at each place.
func rising(c byte) []byte {
	out := full(c)
	for i := range out {
		out[i] += byte(i)
	}
	return out
}

func made(t *testing.T, blocks int) (*dev.Device, *Pairs) {
	t.Helper()
	d, err := dev.New(blocks)
	if err != nil {
		t.Fatal(err)
	}
	return d, opened(t, d)
}

func opened(t *testing.T, d *dev.Device) *Pairs {
	t.Helper()
	p, err := Open(d)
	if p == nil || err != nil {
		t.Fatalf("Open: %v", err)
	}
	return p
}

// write writes b, and holds the Ref.
func write(t *testing.T, p *Pairs, i int, b []byte) api.Ref {
	t.Helper()
	r, err := p.Write(i, b)
	if err != nil || r != (api.Ref{Addr: i, Sum: crc.Sum(b)}) {
		t.Fatalf("Write(%d): %v %v", i, r, err)
	}
	return r
}

func flush(t *testing.T, d *dev.Device) {
	t.Helper()
	if err := d.Flush(); err != nil {
		t.Fatal(err)
	}
}

// reads holds what is read against want, or against err with nothing beside it.
func reads(t *testing.T, p *Pairs, r api.Ref, want []byte, err error) {
	t.Helper()
	got, e := p.Read(r)
	if e != err || !bytes.Equal(got, want) || err != nil && len(got) > 0 {
		t.Errorf("Read(%v): %v %v, not %v %v", r, got, e, want, err)
	}
}

func mends(t *testing.T, p *Pairs, r api.Ref, want int, err error) {
	t.Helper()
	if n, e := p.Mend(r); n != want || e != err {
		t.Errorf("Mend(%v): %d %v, not %d %v", r, n, e, want, err)
	}
}

func mended(t *testing.T, p *Pairs, want int) {
	t.Helper()
	if p.Mended() != want {
		t.Errorf("Mended(): %d, not %d", p.Mended(), want)
	}
}

// holds holds what the device itself has at a place.
func holds(t *testing.T, d *dev.Device, i int, want []byte) {
	t.Helper()
	if got, err := d.Read(i); err != nil || !bytes.Equal(got, want) {
		t.Errorf("block %d: %v %v, not %v", i, got, err, want)
	}
}

// callsLeft is how many Writes or Flushes a device still does, as far as 4.
func callsLeft(d *dev.Device) int {
	c := d.Clone()
	for n := range 4 {
		if c.Flush() != nil {
			return n
		}
	}
	return 4
}

// alike holds two devices against each other by all that they tell, and then behind a fall.
func alike(t *testing.T, got, want *dev.Device) {
	t.Helper()
	if got.Down() != want.Down() || got.Calls() != want.Calls() || got.Pending() != want.Pending() || got.Ever() != want.Ever() || callsLeft(got) != callsLeft(want) {
		t.Errorf("the device is another one: down %v, %d calls, %d pending, %d ever faulted", got.Down(), got.Calls(), got.Pending(), got.Ever())
	}
	got, want = got.Clone(), want.Clone()
	for range 2 {
		for i := range want.Blocks() {
			a, e := got.Read(i)
			b, f := want.Read(i)
			if e != f || !bytes.Equal(a, b) || got.Faulted(i) != want.Faulted(i) {
				t.Errorf("block %d is another one: %v %v, not %v %v", i, a, e, b, f)
			}
		}
		got.Crash()
		want.Crash()
	}
}

// noPlaces are what is no place of a first half: below 0, in the second one, data, past the end.
func noPlaces(g api.Geo) []int {
	return []int{-1, -2, -g.Half, math.MinInt, g.Half, g.Half + 1, 2*g.Half - 1, 2 * g.Half, g.Blocks - 1, g.Blocks, g.Blocks + 1, api.MaxBlocks, 1 << 32, math.MaxInt - 1, math.MaxInt}
}

// noBlocks are bytes that are no block.
func noBlocks() [][]byte {
	return [][]byte{nil, {}, {1}, full(1)[:255], full(1)[:0], append(full(1), 1), make([]byte, 512)}
}

// P5.1: Open refuses what geo.Of does, with nothing beside.
func TestOpenRange(t *testing.T) {
	for _, blocks := range []int{1, 2, 75, 298, 299} {
		d, err := dev.New(blocks)
		if err != nil {
			t.Fatal(err)
		}
		if p, err := Open(d); p != nil || err != api.ErrRange {
			t.Errorf("Open of %d blocks: %v %v", blocks, p, err)
		}
	}
}

// P5.1: Geo is geo.Of's; Open changes nothing of the device.
func TestOpenGeo(t *testing.T) {
	for _, c := range [][2]int{{300, 75}, {301, 75}, {303, 75}, {304, 76}, {400, 100}, {2047, 511}, {2048, 512}, {2052, 512}, {6000, 512}} {
		d, err := dev.New(c[0])
		if err != nil {
			t.Fatal(err)
		}
		was := d.Clone()
		p := opened(t, d)
		if g := p.Geo(); g != (api.Geo{Blocks: c[0], Half: c[1]}) {
			t.Errorf("Geo() of %d blocks: %v", c[0], g)
		}
		mended(t, p, 0)
		alike(t, d, was)
	}
}

// P5.1: Open asks for the geometry only: one that is down, or has faults, opens.
func TestOpenDown(t *testing.T) {
	d, p := made(t, 400)
	r := write(t, p, 7, rising(1))
	flush(t, d)
	d.Fail(0)
	d.Arm(1)
	if d.Flush() != api.ErrCrash {
		t.Fatal("armed")
	}
	p = opened(t, d)
	if p.Geo() != (api.Geo{Blocks: 400, Half: 100}) {
		t.Error(p.Geo())
	}
	reads(t, p, r, nil, api.ErrCrash)
	d.Crash()
	reads(t, p, r, rising(1), nil)
}

// P5.1: each block of the first half is written at its two places, pending, and at no other.
func TestWriteEach(t *testing.T) {
	for _, c := range [][2]int{{300, 75}, {403, 100}, {2052, 512}} {
		d, p := made(t, c[0])
		half := c[1]
		for i := range half {
			write(t, p, i, rising(byte(i+1)))
			if d.Pending() != 2*(i+1) || d.Calls() != 2*(i+1) {
				t.Fatalf("%d pending, %d calls behind %d Writes", d.Pending(), d.Calls(), i+1)
			}
		}
		for i := range c[0] {
			want := full(0)
			if i < 2*half {
				want = rising(byte(i%half + 1))
			}
			holds(t, d, i, want)
		}
		mended(t, p, 0)
		d.Crash()
		holds(t, d, 0, full(0))
		holds(t, d, half, full(0))
	}
}

// P5.1: a Write stands in the place of what was there, faulted or not, and doesn't count as mending.
func TestWriteOver(t *testing.T) {
	d, p := made(t, 300)
	write(t, p, 3, rising(1))
	write(t, p, 4, rising(2))
	flush(t, d)
	d.Spoil(3, 0, 1)
	d.Fail(78)
	old := write(t, p, 3, rising(3))
	r := write(t, p, 3, rising(4))
	if d.Pending() != 2 {
		t.Error(d.Pending(), "pending")
	}
	flush(t, d)
	reads(t, p, r, rising(4), nil)
	reads(t, p, old, nil, api.ErrIO)
	holds(t, d, 78, rising(4))
	if d.Faulted(3) || d.Faulted(78) {
		t.Error("still faulted")
	}
	mends(t, p, r, 0, nil)
	mended(t, p, 0)
	reads(t, p, api.Ref{Addr: 4, Sum: crc.Sum(rising(2))}, rising(2), nil)
}

// P5.1: ErrRange comes ahead of all else, with nothing beside; the power isn't asked for, either.
func TestRange(t *testing.T) {
	d, p := made(t, 400)
	write(t, p, 7, rising(1))
	flush(t, d)
	d.Spoil(7, 1, 1)
	d.Arm(1)
	for _, down := range []bool{false, true} {
		if down && d.Flush() != api.ErrCrash {
			t.Fatal("armed")
		}
		was := d.Clone()
		for _, i := range noPlaces(p.Geo()) {
			for _, b := range append(noBlocks(), rising(1)) {
				if r, err := p.Write(i, b); r != (api.Ref{}) || err != api.ErrRange {
					t.Errorf("Write(%d) of %d bytes: %v %v", i, len(b), r, err)
				}
			}
			for _, b := range [][]byte{full(0), rising(1), nil} {
				r := api.Ref{Addr: i, Sum: crc.Sum(b)}
				reads(t, p, r, nil, api.ErrRange)
				mends(t, p, r, 0, api.ErrRange)
			}
		}
		alike(t, d, was)
		mended(t, p, 0)
	}
}

// P5.1: Write refuses what the device does, in its order: ErrCrash, ErrShape.
func TestWriteShape(t *testing.T) {
	d, p := made(t, 400)
	write(t, p, 7, rising(1))
	was := d.Clone()
	for _, b := range noBlocks() {
		if r, err := p.Write(7, b); r != (api.Ref{}) || err != api.ErrShape {
			t.Errorf("Write of %d bytes: %v %v", len(b), r, err)
		}
	}
	alike(t, d, was)
	d.Arm(1)
	for _, b := range append(noBlocks(), rising(2)) {
		if r, err := p.Write(7, b); r != (api.Ref{}) || err != api.ErrCrash {
			t.Errorf("Write of %d bytes, down: %v %v", len(b), r, err)
		}
	}
	d.Crash(1, 1)
	holds(t, d, 7, rising(1))
	holds(t, d, 107, rising(1))
}

// P5.1: behind a fall at either of a Write's two, what was there ahead of it can be read, whatever is kept.
func TestWriteFalls(t *testing.T) {
	for n := 1; n <= 2; n++ {
		for _, pick := range []int{0, 1} {
			d, p := made(t, 300)
			old := write(t, p, 74, rising(1))
			flush(t, d)
			d.Arm(n)
			if r, err := p.Write(74, rising(2)); r != (api.Ref{}) || err != api.ErrCrash {
				t.Fatalf("Write, armed for %d: %v %v", n, r, err)
			}
			if d.Pending() != n-1 {
				t.Errorf("%d pending, not %d", d.Pending(), n-1)
			}
			d.Crash(pick)
			p = opened(t, d)
			reads(t, p, old, rising(1), nil)
			mended(t, p, pick*(n-1))
			mends(t, p, old, 0, nil)
		}
	}
}

// P5.1: of two Writes over each other, of which a fall kept a half each, each is read by its own Ref.
func TestReadByRef(t *testing.T) {
	d, p := made(t, 300)
	old := write(t, p, 5, rising(1))
	flush(t, d)
	r := write(t, p, 5, rising(2))
	for _, picks := range [][]int{{1, 0}, {0, 1}} {
		c := d.Clone()
		c.Crash(picks...)
		for _, x := range []struct {
			r    api.Ref
			want []byte
			away int // the place at which it isn't
		}{{old, rising(1), 5 + 75*picks[1]}, {r, rising(2), 5 + 75*picks[0]}} {
			e := c.Clone()
			q := opened(t, e)
			reads(t, q, x.r, x.want, nil)
			read := 0
			if x.away == 5 {
				read = 1
			}
			mended(t, q, read)
			mends(t, q, x.r, 1-read, nil)
			mended(t, q, 1)
			holds(t, e, 5, x.want)
			holds(t, e, 80, x.want)
		}
	}
}

// P0.4: a Write keeps nothing of what it is handed, changes nothing of it, and takes nothing of what is behind its length.
func TestWriteMemory(t *testing.T) {
	d, p := made(t, 300)
	room := append(rising(1), rising(9)...)
	b := room[:api.BlockSize]
	r := write(t, p, 0, b)
	if !bytes.Equal(room, append(rising(1), rising(9)...)) {
		t.Error("changed")
	}
	for i := range room {
		room[i] = 77
	}
	reads(t, p, r, rising(1), nil)
	holds(t, d, 75, rising(1))
}

// P0.4: what Read answers is new memory, read of the block or of its partner: whoever writes into it, or behind it, changes nothing.
func TestReadMemory(t *testing.T) {
	for _, bad := range []bool{false, true} {
		d, p := made(t, 300)
		r := write(t, p, 9, rising(1))
		flush(t, d)
		if bad {
			d.Fail(9)
		}
		a, err := p.Read(r)
		if err != nil {
			t.Fatal(err)
		}
		b, err := p.Read(r)
		if err != nil {
			t.Fatal(err)
		}
		for _, x := range [][]byte{a, b} {
			for i := range x[:cap(x)] {
				x[:cap(x)][i] = 0
			}
			reads(t, p, r, rising(1), nil)
			holds(t, d, 9, rising(1))
			holds(t, d, 84, rising(1))
			if &x[0] == &a[0] && !bytes.Equal(b, rising(1)) {
				t.Error("two answers share their memory")
			}
		}
	}
}

// harm does one of the kinds of fault: none; a Spoil; a Fail.
func harm(t *testing.T, d *dev.Device, kind, i int) {
	t.Helper()
	if kind == 1 && !d.Spoil(i, 9, 5) || kind == 2 && !d.Fail(i) {
		t.Fatalf("block %d can't be faulted", i)
	}
}

// eachHarm tries what becomes of each pair of faults, of a block and its partner, at the ends of the halves and between.
func eachHarm(t *testing.T, try func(d *dev.Device, p *Pairs, r api.Ref, here, there int)) {
	t.Helper()
	for _, i := range []int{0, 7, 74} {
		for here := range 3 {
			for there := range 3 {
				d, p := made(t, 300)
				write(t, p, i, rising(1))
				r := write(t, p, i, rising(2))
				flush(t, d)
				harm(t, d, here, i)
				harm(t, d, there, i+75)
				try(d, p, r, here, there)
			}
		}
	}
}

// P5.1: Read tells what is right, mends the block where it had to ask its partner, and leaves the partner as it is.
func TestReadHarmed(t *testing.T) {
	eachHarm(t, func(d *dev.Device, p *Pairs, r api.Ref, here, there int) {
		want := d.Clone()
		if here > 0 && there > 0 {
			reads(t, p, r, nil, api.ErrIO)
			alike(t, d, want)
			mended(t, p, 0)
			return
		}
		times := 0
		if here > 0 {
			times = 1
			if err := want.Write(r.Addr, rising(2)); err != nil {
				t.Fatal(err)
			}
		}
		for range 2 {
			reads(t, p, r, rising(2), nil)
			alike(t, d, want)
			mended(t, p, times)
		}
		flush(t, d)
		reads(t, p, r, rising(2), nil)
		mended(t, p, times)
		if d.Faulted(r.Addr) || d.Faulted(r.Addr+75) != (there > 0) {
			t.Error("faulted:", d.Faulted(r.Addr), d.Faulted(r.Addr+75))
		}
	})
}

// P5.1: Mend writes the one that is not right, whichever it is, and nothing else.
func TestMendHarmed(t *testing.T) {
	eachHarm(t, func(d *dev.Device, p *Pairs, r api.Ref, here, there int) {
		want := d.Clone()
		if here > 0 && there > 0 {
			mends(t, p, r, 0, api.ErrIO)
			alike(t, d, want)
			mended(t, p, 0)
			return
		}
		times := 0
		for place, kind := range map[int]int{r.Addr: here, r.Addr + 75: there} {
			if kind > 0 {
				times = 1
				if err := want.Write(place, rising(2)); err != nil {
					t.Fatal(err)
				}
			}
		}
		mends(t, p, r, times, nil)
		alike(t, d, want)
		mends(t, p, r, 0, nil)
		alike(t, d, want)
		mended(t, p, times)
		flush(t, d)
		mends(t, p, r, 0, nil)
		mended(t, p, times)
		if d.Faulted(r.Addr) || d.Faulted(r.Addr+75) {
			t.Error("still faulted")
		}
	})
}

// P5.1: what was mended is pending till a flush: behind a fall that drops it, it is mended again, and counted again.
func TestMendedDropped(t *testing.T) {
	for _, mend := range []bool{false, true} {
		d, p := made(t, 400)
		r := write(t, p, 7, rising(1))
		flush(t, d)
		d.Spoil(7, 252, 1<<31)
		for n := 1; n <= 3; n++ {
			if mend {
				mends(t, p, r, 1, nil)
			} else {
				reads(t, p, r, rising(1), nil)
			}
			mended(t, p, n)
			d.Crash(n - 2) // the first and the third are kept: it is whether they are odd that counts
			if d.Faulted(7) != (n == 2) {
				t.Error(n, d.Faulted(7))
			}
			d.Spoil(7, n, 3)
		}
	}
}

// P5.1: each Pairs counts what it wrote itself, since its Open; what it reads is the device's.
func TestMendedOfEach(t *testing.T) {
	d, p := made(t, 400)
	q := opened(t, d)
	r := write(t, p, 7, rising(1))
	s := write(t, q, 8, rising(2))
	flush(t, d)
	d.Fail(7)
	d.Fail(8)
	d.Spoil(109, 0, 1)
	reads(t, q, r, rising(1), nil)
	reads(t, p, r, rising(1), nil)
	mends(t, p, s, 1, nil)
	reads(t, q, s, rising(2), nil)
	mends(t, q, api.Ref{Addr: 9, Sum: crc.Sum(full(0))}, 1, nil)
	mended(t, p, 1)
	mended(t, q, 2)
	mended(t, opened(t, d), 0)
}

// P5.1: while the device is down, and where the power is found gone in mending, Read and Mend answer ErrCrash, count nothing, and leave nothing.
func TestReadCrash(t *testing.T) {
	eachHarm(t, func(d *dev.Device, p *Pairs, r api.Ref, here, there int) {
		d.Arm(1)
		a, b := d.Clone(), d.Clone()
		readErr, mendErr := error(nil), error(nil)
		switch {
		case here > 0 && there > 0:
			readErr, mendErr = api.ErrIO, api.ErrIO
		case here > 0:
			readErr, mendErr = api.ErrCrash, api.ErrCrash
		case there > 0:
			mendErr = api.ErrCrash
		}
		var want []byte
		if readErr == nil {
			want = rising(2)
		}
		p, q := opened(t, a), opened(t, b)
		reads(t, p, r, want, readErr)
		mends(t, q, r, 0, mendErr)
		if a.Down() != (readErr == api.ErrCrash) || b.Down() != (mendErr == api.ErrCrash) {
			t.Error("down:", a.Down(), b.Down())
		}
		_, _ = a.Flush(), b.Flush() // down, at the latest now
		reads(t, p, r, nil, api.ErrCrash)
		mends(t, p, r, 0, api.ErrCrash)
		reads(t, q, r, nil, api.ErrCrash)
		mends(t, q, r, 0, api.ErrCrash)
		mended(t, p, 0)
		mended(t, q, 0)
		a.Crash(1)
		b.Crash(1)
		d.Arm(0)
		alike(t, a, d)
		alike(t, b, d)
	})
}

// P5.1: where neither has the sum, it is ErrIO, though both can be read, and nothing is written.
func TestOtherSum(t *testing.T) {
	d, p := made(t, 400)
	r := write(t, p, 7, rising(1))
	write(t, p, 8, rising(2))
	flush(t, d)
	was := d.Clone()
	for _, sum := range []uint32{0, 1, r.Sum + 1, r.Sum ^ 1<<31, ^r.Sum, math.MaxUint32, crc.Sum(rising(2)), crc.Sum(full(0)), crc.Sum(nil)} {
		reads(t, p, api.Ref{Addr: 7, Sum: sum}, nil, api.ErrIO)
		mends(t, p, api.Ref{Addr: 7, Sum: sum}, 0, api.ErrIO)
	}
	reads(t, p, api.Ref{Addr: 8, Sum: r.Sum}, nil, api.ErrIO)
	reads(t, p, api.Ref{Addr: 9}, nil, api.ErrIO)
	alike(t, d, was)
	mended(t, p, 0)
}

// P5.1: a Ref is nothing but a place and a sum: made by hand it tells what was never written by Write, too.
func TestRefByHand(t *testing.T) {
	d, p := made(t, 300)
	reads(t, p, api.Ref{Addr: 74, Sum: crc.Sum(full(0))}, full(0), nil)
	mends(t, p, api.Ref{Addr: 0, Sum: crc.Sum(full(0))}, 0, nil)
	d.Raw(10, rising(1))
	d.Raw(85, rising(2))
	d.Raw(86, rising(3))
	one, two, three := crc.Sum(rising(1)), crc.Sum(rising(2)), crc.Sum(rising(3))
	reads(t, p, api.Ref{Addr: 10, Sum: one}, rising(1), nil)
	mended(t, p, 0)
	reads(t, p, api.Ref{Addr: 10, Sum: two}, rising(2), nil)
	mended(t, p, 1)
	holds(t, d, 10, rising(2))
	reads(t, p, api.Ref{Addr: 10, Sum: one}, nil, api.ErrIO)
	mends(t, p, api.Ref{Addr: 11, Sum: crc.Sum(full(0))}, 1, nil)
	holds(t, d, 86, full(0))
	reads(t, p, api.Ref{Addr: 11, Sum: three}, nil, api.ErrIO)
	if err := d.Write(12, rising(4)); err != nil {
		t.Fatal(err)
	}
	reads(t, p, api.Ref{Addr: 12, Sum: crc.Sum(rising(4))}, rising(4), nil)
	mends(t, p, api.Ref{Addr: 12, Sum: crc.Sum(rising(4))}, 1, nil)
	holds(t, d, 87, rising(4))
	mended(t, p, 3)
}

// P5.2: wherever the one of both is turned, and by whatever bits, Read tells what was written; with both turned it never tells anything else.
func TestEachTurn(t *testing.T) {
	d, p := made(t, 300)
	r := write(t, p, 33, rising(5))
	flush(t, d)
	sound := d.Clone()
	bits := []uint32{1, 0x80, 0x8000, 0x01000000, 0x80000000, 0x00ffff00, 0xdeadbeef, math.MaxUint32}
	for at := 0; at <= 252; at++ {
		for _, x := range bits {
			for _, place := range []int{33, 108} {
				*d = *sound.Clone()
				if !d.Spoil(place, at, x) {
					t.Fatal("Spoil", at, x)
				}
				reads(t, p, r, rising(5), nil)
			}
			if !d.Spoil(33, at, x) {
				t.Fatal("Spoil", at, x)
			}
			reads(t, p, r, nil, api.ErrIO)
		}
	}
}

// P5.2: of a whole half, faulted with no two of a pair together, each block is told as it was written, and mended by a round.
func TestUnpaired(t *testing.T) {
	d, p := made(t, 400)
	written := map[api.Ref][]byte{}
	for i := range 100 {
		b := rising(byte(3 * i))
		written[write(t, p, i, b)] = b
	}
	flush(t, d)
	for i := range 100 {
		harm(t, d, 1+i/2%2, i+i%2*100)
	}
	if d.Ever() != 100 || len(written) != 100 {
		t.Fatal(d.Ever(), len(written))
	}
	refs := []api.Ref{}
	for r := range written {
		refs = append(refs, r)
	}
	slices.SortFunc(refs, func(a, b api.Ref) int { return a.Addr - b.Addr })
	for _, r := range refs {
		reads(t, p, r, written[r], nil)
	}
	mended(t, p, 50)
	for _, r := range refs {
		mends(t, p, r, r.Addr%2, nil)
	}
	mended(t, p, 100)
	flush(t, d)
	for i := range 200 {
		if d.Faulted(i) {
			t.Errorf("block %d is still faulted", i)
		}
	}
	for _, r := range refs {
		reads(t, p, r, written[r], nil)
	}
	mended(t, p, 100)
}
