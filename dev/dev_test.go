package dev

import (
	"bytes"
	"math"
	"math/rand"
	"slices"
	"testing"

	"breviary/api"
)

// full is a block of the byte c.
func full(c byte) []byte { return bytes.Repeat([]byte{c}, api.BlockSize) }

// rising is a block of other bytes at each place.
func rising(c byte) []byte {
	out := full(c)
	for i := range out {
		out[i] += byte(i)
	}
	return out
}

func made(t *testing.T, blocks int) *Device {
	t.Helper()
	d, err := New(blocks)
	if d == nil || err != nil {
		t.Fatalf("New(%d): %v", blocks, err)
	}
	return d
}

func write(t *testing.T, d *Device, i int, b []byte) {
	t.Helper()
	if err := d.Write(i, b); err != nil {
		t.Fatalf("Write(%d): %v", i, err)
	}
}

func flush(t *testing.T, d *Device) {
	t.Helper()
	if err := d.Flush(); err != nil {
		t.Fatalf("Flush(): %v", err)
	}
}

func fail(t *testing.T, d *Device, i int) {
	t.Helper()
	if !d.Fail(i) {
		t.Fatalf("Fail(%d): false", i)
	}
}

func spoil(t *testing.T, d *Device, i, at int, bits uint32) {
	t.Helper()
	if !d.Spoil(i, at, bits) {
		t.Fatalf("Spoil(%d, %d, %#x): false", i, at, bits)
	}
}

// reads holds what is read of block i against want, or against err with nothing beside it.
func reads(t *testing.T, d *Device, i int, want []byte, err error) {
	t.Helper()
	got, e := d.Read(i)
	if e != err || !bytes.Equal(got, want) || err != nil && len(got) > 0 {
		t.Errorf("Read(%d): %v %v, not %v %v", i, got, e, want, err)
	}
}

// counts holds what is counted: blocks pending, calls that did well, blocks ever faulted.
func counts(t *testing.T, d *Device, pending, calls, ever int) {
	t.Helper()
	if d.Pending() != pending || d.Calls() != calls || d.Ever() != ever {
		t.Errorf("%d pending, %d calls, %d ever faulted, not %d, %d, %d", d.Pending(), d.Calls(), d.Ever(), pending, calls, ever)
	}
}

func faulted(t *testing.T, d *Device, i int, want bool) {
	t.Helper()
	if d.Faulted(i) != want {
		t.Errorf("Faulted(%d): %v", i, !want)
	}
}

// nowhere are places at which a device of so many blocks has none.
func nowhere(blocks int) []int {
	return []int{-1, -2, math.MinInt, blocks, blocks + 1, api.MaxBlocks, 1 << 32, math.MaxInt}
}

// noBlocks are bytes that are no block.
func noBlocks() [][]byte {
	return [][]byte{nil, {}, {1}, full(1)[:255], full(1)[:0], append(full(1), 1), make([]byte, 512)}
}

// P3.1: how many blocks there may be.
func TestNewRange(t *testing.T) {
	for _, n := range []int{0, -1, -300, math.MinInt, api.MaxBlocks + 1, 2 * api.MaxBlocks, math.MaxInt} {
		if d, err := New(n); d != nil || err != api.ErrRange {
			t.Errorf("New(%d): %v %v", n, d, err)
		}
	}
	for _, n := range []int{1, 2, 3, api.MinBlocks - 1, api.MinBlocks, api.MaxBlocks - 1, api.MaxBlocks} {
		if d := made(t, n); d.Blocks() != n {
			t.Errorf("New(%d): %d blocks", n, d.Blocks())
		}
	}
}

// P3.1: a new one: 0s, nothing pending, nothing done, no fault, up.
func TestNewIsEmpty(t *testing.T) {
	for _, n := range []int{1, 2, api.MaxBlocks} {
		d := made(t, n)
		for i := range n {
			reads(t, d, i, full(0), nil)
			faulted(t, d, i, false)
		}
		counts(t, d, 0, 0, 0)
		if d.Down() {
			t.Error("down")
		}
		for range 5 {
			flush(t, d)
		}
	}
}

// P3.1: the first and the last block of the greatest device hold what they are given.
func TestGreatest(t *testing.T) {
	d := made(t, api.MaxBlocks)
	for i := range api.MaxBlocks {
		write(t, d, i, rising(byte(i*7)))
	}
	counts(t, d, api.MaxBlocks, api.MaxBlocks, 0)
	flush(t, d)
	counts(t, d, 0, api.MaxBlocks+1, 0)
	for i := range api.MaxBlocks {
		reads(t, d, i, rising(byte(i*7)), nil)
	}
}

// P3.1: which error Write answers, and that it then does nothing.
func TestWriteErrors(t *testing.T) {
	for _, n := range []int{1, 4} {
		d := made(t, n)
		for _, i := range nowhere(n) {
			for _, b := range append(noBlocks(), full(1)) {
				if err := d.Write(i, b); err != api.ErrFull {
					t.Errorf("Write(%d) of %d bytes: %v", i, len(b), err)
				}
			}
		}
		for i := range n {
			for _, b := range noBlocks() {
				if err := d.Write(i, b); err != api.ErrShape {
					t.Errorf("Write(%d) of %d bytes: %v", i, len(b), err)
				}
			}
			reads(t, d, i, full(0), nil)
		}
		counts(t, d, 0, 0, 0)
	}
}

// P3.1: a Write that fails leaves what is pending as it was.
func TestWriteErrorKeepsPending(t *testing.T) {
	d := made(t, 2)
	write(t, d, 1, rising(3))
	for _, b := range noBlocks() {
		if d.Write(1, b) != api.ErrShape {
			t.Error("of", len(b), "bytes")
		}
	}
	reads(t, d, 1, rising(3), nil)
	counts(t, d, 1, 1, 0)
	flush(t, d)
	reads(t, d, 1, rising(3), nil)
}

// P3.1: what is written is read at once, of that block alone, and is pending till a flush.
func TestWriteIsPending(t *testing.T) {
	d := made(t, 3)
	write(t, d, 1, rising(1))
	counts(t, d, 1, 1, 0)
	write(t, d, 1, rising(2))
	counts(t, d, 1, 2, 0)
	write(t, d, 0, full(0))
	counts(t, d, 2, 3, 0)
	reads(t, d, 0, full(0), nil)
	reads(t, d, 1, rising(2), nil)
	reads(t, d, 2, full(0), nil)
	flush(t, d)
	counts(t, d, 0, 4, 0)
	reads(t, d, 1, rising(2), nil)
	flush(t, d)
	counts(t, d, 0, 5, 0)
	d.Crash()
	reads(t, d, 0, full(0), nil)
	reads(t, d, 1, rising(2), nil)
	reads(t, d, 2, full(0), nil)
	counts(t, d, 0, 5, 0)
}

// P3.1: which error Read answers.
func TestReadErrors(t *testing.T) {
	for _, n := range []int{1, 4} {
		d := made(t, n)
		for _, i := range nowhere(n) {
			reads(t, d, i, nil, api.ErrFull)
		}
		fail(t, d, n-1)
		reads(t, d, n-1, nil, api.ErrIO)
		reads(t, d, n-1, nil, api.ErrIO)
		d.Arm(1)
		if d.Flush() != api.ErrCrash {
			t.Error("armed")
		}
		for _, i := range append(nowhere(n), 0, n-1) {
			reads(t, d, i, nil, api.ErrCrash)
		}
		d.Crash()
		reads(t, d, n-1, nil, api.ErrIO)
		reads(t, d, n, nil, api.ErrFull)
		counts(t, d, 0, 0, 1)
	}
}

// P3.1: Read is no call that is counted, nor one that finds the power gone.
func TestReadIsNotCounted(t *testing.T) {
	d := made(t, 2)
	write(t, d, 0, rising(1))
	d.Arm(1)
	for range 5 {
		reads(t, d, 0, rising(1), nil)
		reads(t, d, 1, full(0), nil)
		reads(t, d, 2, nil, api.ErrFull)
	}
	counts(t, d, 1, 1, 0)
	if d.Down() || d.Flush() != api.ErrCrash {
		t.Error("the first Flush, behind Reads")
	}
}

// P3.1 with P0.4: what is handed to Write and Raw is neither changed nor kept, nor what lies behind it read.
func TestHandedInMemory(t *testing.T) {
	for _, raw := range []bool{false, true} {
		d := made(t, 2)
		whole := append(rising(5), rising(9)...)
		was := slices.Clone(whole)
		b := whole[:api.BlockSize]
		if raw && !d.Raw(1, b) {
			t.Error("Raw")
		}
		if !raw {
			write(t, d, 1, b)
		}
		reads(t, d, 1, rising(5), nil)
		if !bytes.Equal(whole, was) {
			t.Error("what was handed in is changed")
		}
		clear(whole)
		reads(t, d, 1, rising(5), nil)
		flush(t, d)
		spoil(t, d, 1, 0, 1)
		if !bytes.Equal(whole, make([]byte, len(whole))) {
			t.Error("what was handed in is changed later")
		}
	}
	d := made(t, 1)
	if d.Write(0, full(1)[:255]) != api.ErrShape || d.Raw(0, full(1)[:255]) {
		t.Error("spare room makes a block of 255 bytes")
	}
}

// P3.1 with P0.4: what Read hands out is nobody's: pending, flushed, never written, turned.
func TestHandedOutMemory(t *testing.T) {
	d := made(t, 4)
	write(t, d, 1, rising(1))
	write(t, d, 2, rising(2))
	flush(t, d)
	spoil(t, d, 2, 4, 0xffffffff)
	write(t, d, 3, rising(3))
	for i := range 4 {
		one, err := d.Read(i)
		other, e := d.Read(i)
		if err != nil || e != nil || !bytes.Equal(one, other) {
			t.Fatal(i, err, e)
		}
		want := slices.Clone(other)
		for k := range one {
			one[k] ^= 255
		}
		_ = append(one, 1, 2, 3)
		clear(one[:cap(one)])
		if !bytes.Equal(other, want) {
			t.Error("two answers share memory:", i)
		}
		reads(t, d, i, want, nil)
	}
	reads(t, d, 0, full(0), nil)
	flush(t, d)
	reads(t, d, 3, rising(3), nil)
}

// P3.1: blocks that were never written don't share what happens to one of them.
func TestEmptyBlocksAreTheirOwn(t *testing.T) {
	d := made(t, 3)
	spoil(t, d, 1, 0, 0x01020304)
	reads(t, d, 0, full(0), nil)
	reads(t, d, 2, full(0), nil)
	fail(t, d, 2)
	reads(t, d, 0, full(0), nil)
	faulted(t, d, 0, false)
	e := made(t, 3)
	reads(t, e, 1, full(0), nil)
	counts(t, e, 0, 0, 0)
}

// P3.2: armed for the n-th: Writes and Flushes ahead of it do well, it does nothing.
func TestArmEachCall(t *testing.T) {
	for n := 1; n <= 9; n++ {
		for _, flushes := range []bool{false, true} {
			d := made(t, 10)
			write(t, d, 9, rising(9))
			d.Arm(n)
			for k := 1; k < n; k++ {
				if k%3 == 0 {
					flush(t, d)
				} else {
					write(t, d, k, rising(byte(k)))
				}
				if d.Down() {
					t.Fatal("down too early:", k, "of", n)
				}
			}
			pending := d.Pending()
			err := d.Flush
			if !flushes {
				err = func() error { return d.Write(0, full(1)) }
			}
			for range 3 {
				if err() != api.ErrCrash || !d.Down() {
					t.Error("not down:", n)
				}
			}
			counts(t, d, pending, n, 0)
			d.Crash(slices.Repeat([]int{1}, pending)...)
			reads(t, d, 0, full(0), nil)
			reads(t, d, 9, rising(9), nil)
			counts(t, d, 0, n, 0)
		}
	}
}

// P3.2: whatever a Write is handed, it counts, and it finds the power gone ahead of all else.
func TestArmWhateverIsHanded(t *testing.T) {
	for n := 1; n <= 5; n++ {
		for _, i := range append(nowhere(2), 0, 1) {
			for _, b := range noBlocks() {
				d := made(t, 2)
				d.Arm(n)
				for range n - 1 {
					if err := d.Write(i, b); err != api.ErrFull && err != api.ErrShape {
						t.Errorf("Write(%d) of %d bytes: %v", i, len(b), err)
					}
				}
				if d.Down() {
					t.Error("down too early")
				}
				for range 2 {
					if err := d.Write(i, b); err != api.ErrCrash || !d.Down() {
						t.Errorf("Write(%d) of %d bytes: %v", i, len(b), err)
					}
				}
				counts(t, d, 0, 0, 0)
			}
		}
	}
}

// P3.2: below 1 it is disarmed; armed anew, the last one counts.
func TestArmAnew(t *testing.T) {
	for _, n := range []int{0, -1, -5, math.MinInt} {
		d := made(t, 1)
		d.Arm(n)
		flush(t, d)
		d.Arm(2)
		flush(t, d)
		d.Arm(n)
		for range 5 {
			flush(t, d)
			write(t, d, 0, full(1))
		}
	}
	d := made(t, 1)
	d.Arm(1)
	d.Arm(3)
	flush(t, d)
	d.Arm(3)
	flush(t, d)
	write(t, d, 0, full(1))
	d.Arm(math.MaxInt)
	flush(t, d)
	d.Arm(2)
	d.Arm(1)
	if d.Flush() != api.ErrCrash {
		t.Error("armed for the first, last")
	}
}

// P3.2: Arm does not bring a device up, nor make it fall by itself.
func TestArmWhileDown(t *testing.T) {
	for _, n := range []int{-1, 0, 1, 2, 9} {
		d := made(t, 1)
		d.Arm(1)
		if d.Down() || d.Flush() != api.ErrCrash {
			t.Fatal("armed")
		}
		d.Arm(n)
		for range 4 {
			if !d.Down() || d.Flush() != api.ErrCrash || d.Write(0, full(1)) != api.ErrCrash {
				t.Error("up by Arm", n)
			}
		}
		d.Crash()
		for range 12 {
			flush(t, d)
		}
	}
}

// P3.2: while it is down, calls that only look or make faults, and Crash, are all that do something.
func TestDown(t *testing.T) {
	d := made(t, 3)
	write(t, d, 0, rising(1))
	flush(t, d)
	write(t, d, 1, rising(2))
	d.Arm(1)
	if d.Write(2, rising(3)) != api.ErrCrash {
		t.Fatal("armed")
	}
	for range 3 {
		if d.Write(2, rising(3)) != api.ErrCrash || d.Flush() != api.ErrCrash || d.Write(9, nil) != api.ErrCrash || d.Write(0, nil) != api.ErrCrash {
			t.Error("it does something")
		}
		for _, i := range []int{-1, 0, 1, 2, 3} {
			reads(t, d, i, nil, api.ErrCrash)
		}
	}
	if !d.Down() || d.Blocks() != 3 {
		t.Error("down, of 3 blocks:", d.Down(), d.Blocks())
	}
	counts(t, d, 1, 3, 0)
	d.Crash()
	if d.Down() {
		t.Error("down behind Crash")
	}
	counts(t, d, 0, 3, 0)
	reads(t, d, 0, rising(1), nil)
	reads(t, d, 1, full(0), nil)
	reads(t, d, 2, full(0), nil)
}

// P3.2: Crash disarms, up or down.
func TestCrashDisarms(t *testing.T) {
	d := made(t, 1)
	for n := 1; n < 5; n++ {
		d.Arm(n)
		d.Crash()
		for range 6 {
			flush(t, d)
		}
	}
}

// P3.2, the chapter's example: Write, Crash(): as ahead.
func TestCrashAsAhead(t *testing.T) {
	d := made(t, 2)
	write(t, d, 0, rising(1))
	flush(t, d)
	write(t, d, 0, rising(2))
	write(t, d, 0, rising(3))
	write(t, d, 1, rising(4))
	d.Crash()
	reads(t, d, 0, rising(1), nil)
	reads(t, d, 1, full(0), nil)
	counts(t, d, 0, 5, 0)
}

// P3.2: each choice of picks, for blocks written in another order: fewer, as many, and more of them.
func TestCrashPicks(t *testing.T) {
	places := []int{1, 3, 4, 7}
	numbers := []int{0, 1, 2, 3, -1, -2, -3, math.MinInt, math.MinInt + 1, math.MaxInt, math.MaxInt - 1}
	r := rand.New(rand.NewSource(1))
	for round := range 400 {
		d := made(t, 9)
		for i := range 9 {
			write(t, d, i, full(byte(100+i)))
		}
		flush(t, d)
		for _, k := range r.Perm(len(places)) {
			write(t, d, places[k], full(50))
			write(t, d, places[k], full(byte(places[k])))
		}
		picks := make([]int, round%7)
		for k := range picks {
			picks[k] = numbers[r.Intn(len(numbers))]
		}
		was := slices.Clone(picks)
		d.Crash(picks...)
		if !slices.Equal(picks, was) {
			t.Fatal("the picks are changed")
		}
		for i := range 9 {
			want := full(byte(100 + i))
			if k := slices.Index(places, i); k >= 0 && k < len(picks) && picks[k]%2 != 0 {
				want = full(byte(i))
			}
			reads(t, d, i, want, nil)
		}
		counts(t, d, 0, 18, 0)
		flush(t, d)
		d.Crash(1, 1, 1, 1, 1, 1, 1, 1, 1)
		counts(t, d, 0, 19, 0)
	}
}

// P3.2: many blocks pending: they are taken rising.
func TestCrashRising(t *testing.T) {
	d := made(t, 200)
	var picks []int
	for k := range 200 {
		write(t, d, k*77%200, rising(byte(k*77%200)))
		picks = append(picks, k*k/3)
	}
	d.Crash(picks...)
	for i := range 200 {
		want := full(0)
		if picks[i]%2 == 1 {
			want = rising(byte(i))
		}
		reads(t, d, i, want, nil)
	}
}

// P3.2: picks with nothing pending are for nobody; what was flushed stays.
func TestCrashNothingPending(t *testing.T) {
	d := made(t, 2)
	write(t, d, 0, rising(1))
	flush(t, d)
	fail(t, d, 1)
	d.Crash(1, 1, 1)
	d.Crash()
	reads(t, d, 0, rising(1), nil)
	reads(t, d, 1, nil, api.ErrIO)
	counts(t, d, 0, 2, 1)
}

// P3.3: which bytes are turned, by which bits.
func TestSpoilBytes(t *testing.T) {
	for _, c := range []struct {
		at   int
		bits uint32
		turn map[int]byte
	}{
		{0, 0x04030201, map[int]byte{0: 1, 1: 2, 2: 3, 3: 4}},
		{0, 1, map[int]byte{0: 1}},
		{0, 0x80000000, map[int]byte{3: 128}},
		{1, 0xff00, map[int]byte{2: 255}},
		{100, 0x10002, map[int]byte{100: 2, 102: 1}},
		{251, 0xff000000, map[int]byte{254: 255}},
		{252, 0x04030201, map[int]byte{252: 1, 253: 2, 254: 3, 255: 4}},
		{252, 0xffffffff, map[int]byte{252: 255, 253: 255, 254: 255, 255: 255}},
	} {
		d := made(t, 3)
		for i := range 3 {
			write(t, d, i, rising(byte(i)))
		}
		flush(t, d)
		spoil(t, d, 1, c.at, c.bits)
		want := rising(1)
		for k, x := range c.turn {
			want[k] ^= x
		}
		reads(t, d, 1, want, nil)
		reads(t, d, 0, rising(0), nil)
		reads(t, d, 2, rising(2), nil)
		for i := range 3 {
			faulted(t, d, i, i == 1)
		}
		counts(t, d, 0, 4, 1)
	}
}

// P3.3: each place, and each bit alone.
func TestSpoilEachPlace(t *testing.T) {
	d := made(t, 1)
	for at := -5; at <= api.BlockSize+5; at++ {
		for bit := range 32 {
			if !d.Raw(0, rising(8)) {
				t.Fatal("Raw")
			}
			want := rising(8)
			is := at >= 0 && at <= 252
			if is {
				want[at+bit/8] ^= 1 << (bit % 8)
			}
			if d.Spoil(0, at, 1<<bit) != is || d.Faulted(0) != is {
				t.Errorf("Spoil(0, %d, bit %d): not %v", at, bit, is)
			}
			reads(t, d, 0, want, nil)
		}
	}
	counts(t, d, 0, 0, 1)
}

// P3.3: what Spoil and Fail refuse, and that nothing comes of it.
func TestFaultsRefused(t *testing.T) {
	d := made(t, 4)
	for i := range 4 {
		write(t, d, i, rising(byte(i)))
	}
	flush(t, d)
	write(t, d, 3, rising(9))
	no := func(is bool, what ...any) {
		t.Helper()
		if is {
			t.Error(what...)
		}
	}
	for _, i := range nowhere(4) {
		no(d.Spoil(i, 0, 1), "Spoil where no block is", i)
		no(d.Fail(i), "Fail where no block is", i)
		faulted(t, d, i, false)
	}
	for _, at := range []int{-1, -4, math.MinInt, 253, 254, 256, 257, math.MaxInt, math.MaxInt - 3} {
		no(d.Spoil(0, at, 1), "Spoil at", at)
	}
	for _, at := range []int{-1, 0, 100, 252, 253} {
		no(d.Spoil(0, at, 0), "Spoil by 0 at", at)
	}
	no(d.Spoil(3, 0, 1), "Spoil of a pending block")
	no(d.Fail(3), "Fail of a pending block")
	for i := range 4 {
		faulted(t, d, i, false)
	}
	counts(t, d, 1, 6, 0)
	d.Crash()
	for i := range 4 {
		reads(t, d, i, rising(byte(i)), nil)
	}
	spoil(t, d, 3, 0, 1)
	fail(t, d, 2)
	counts(t, d, 0, 6, 2)
}

// P3.3: a faulted block is not faulted once more, by neither way.
func TestFaultedAlready(t *testing.T) {
	d := made(t, 2)
	spoil(t, d, 0, 8, 0x55)
	fail(t, d, 1)
	want := full(0)
	want[8] = 0x55
	for i := range 2 {
		if d.Spoil(i, 8, 0x55) || d.Spoil(i, 0, 1) || d.Fail(i) {
			t.Error("faulted twice:", i)
		}
	}
	reads(t, d, 0, want, nil)
	reads(t, d, 1, nil, api.ErrIO)
	counts(t, d, 0, 0, 2)
}

// bothFaults gives a device with block 0 spoiled, block 1 failed, both of rising(1), and block 2 sound.
func bothFaults(t *testing.T) (d *Device, turned []byte) {
	t.Helper()
	d = made(t, 3)
	for i := range 3 {
		write(t, d, i, rising(1))
	}
	flush(t, d)
	spoil(t, d, 0, 16, 0x80)
	fail(t, d, 1)
	turned = rising(1)
	turned[16] ^= 0x80
	return d, turned
}

// P3.1 and P3.3: a faulted block that is written is read as written, and faulted till it is flushed; then it may be faulted anew.
func TestFaultedWrittenFlushed(t *testing.T) {
	d, _ := bothFaults(t)
	for i := range 2 {
		write(t, d, i, rising(7))
		reads(t, d, i, rising(7), nil)
		faulted(t, d, i, true)
		if d.Spoil(i, 0, 1) || d.Fail(i) {
			t.Error("pending, and faulted anew")
		}
	}
	flush(t, d)
	for i := range 2 {
		reads(t, d, i, rising(7), nil)
		faulted(t, d, i, false)
	}
	counts(t, d, 0, 7, 2)
	fail(t, d, 0)
	spoil(t, d, 1, 0, 1)
	reads(t, d, 0, nil, api.ErrIO)
	counts(t, d, 0, 7, 2)
	fail(t, d, 2)
	counts(t, d, 0, 7, 3)
}

// P3.2 and P3.3: a faulted block that is written and dropped is as it was: it is faulted, and the fault the same.
func TestFaultedWrittenDropped(t *testing.T) {
	d, turned := bothFaults(t)
	write(t, d, 0, rising(7))
	write(t, d, 1, rising(7))
	d.Crash(0, 2)
	reads(t, d, 0, turned, nil)
	reads(t, d, 1, nil, api.ErrIO)
	faulted(t, d, 0, true)
	faulted(t, d, 1, true)
	counts(t, d, 0, 6, 2)
}

// P3.2 and P3.3: a faulted block that is written and kept is sound.
func TestFaultedWrittenKept(t *testing.T) {
	for _, picks := range [][]int{{1, 0}, {0, 1}, {1, 1}, {-3, -2, 1}} {
		d, turned := bothFaults(t)
		write(t, d, 0, rising(7))
		write(t, d, 1, rising(8))
		d.Crash(picks...)
		if picks[0]%2 != 0 {
			reads(t, d, 0, rising(7), nil)
		} else {
			reads(t, d, 0, turned, nil)
		}
		if picks[1]%2 != 0 {
			reads(t, d, 1, rising(8), nil)
		} else {
			reads(t, d, 1, nil, api.ErrIO)
		}
		faulted(t, d, 0, picks[0]%2 == 0)
		faulted(t, d, 1, picks[1]%2 == 0)
		counts(t, d, 0, 6, 2)
	}
}

// P3.1: a flush leaves a faulted block that was not written faulted.
func TestFaultedNotWritten(t *testing.T) {
	d, turned := bothFaults(t)
	write(t, d, 2, rising(3))
	flush(t, d)
	reads(t, d, 0, turned, nil)
	reads(t, d, 1, nil, api.ErrIO)
	faulted(t, d, 0, true)
	faulted(t, d, 1, true)
	counts(t, d, 0, 6, 2)
}

// P3.3: Raw of a sound, a spoiled, a failed, and a pending block; up, and down.
func TestRaw(t *testing.T) {
	for _, down := range []bool{false, true} {
		d, _ := bothFaults(t)
		write(t, d, 2, rising(2))
		write(t, d, 1, rising(3))
		if down {
			d.Arm(1)
			if d.Flush() != api.ErrCrash {
				t.Fatal("armed")
			}
		}
		counts(t, d, 2, 6, 2)
		for i := range 3 {
			if !d.Raw(i, rising(byte(20+i))) {
				t.Errorf("Raw(%d): false", i)
			}
			faulted(t, d, i, false)
		}
		counts(t, d, 0, 6, 2)
		if d.Down() != down {
			t.Error("Raw changes whether it is down")
		}
		d.Crash(1, 1, 1)
		for i := range 3 {
			reads(t, d, i, rising(byte(20+i)), nil)
		}
		fail(t, d, 2)
		counts(t, d, 0, 6, 3)
	}
}

// P3.3: what Raw refuses, and that nothing comes of it.
func TestRawRefused(t *testing.T) {
	d, turned := bothFaults(t)
	write(t, d, 2, rising(2))
	for _, i := range nowhere(3) {
		for _, b := range append(noBlocks(), full(1)) {
			if d.Raw(i, b) {
				t.Errorf("Raw(%d) of %d bytes", i, len(b))
			}
		}
	}
	for i := range 3 {
		for _, b := range noBlocks() {
			if d.Raw(i, b) {
				t.Errorf("Raw(%d) of %d bytes", i, len(b))
			}
		}
	}
	reads(t, d, 0, turned, nil)
	reads(t, d, 1, nil, api.ErrIO)
	reads(t, d, 2, rising(2), nil)
	counts(t, d, 1, 5, 2)
	d.Crash()
	reads(t, d, 2, rising(1), nil)
}

// P3.3: faults are made, and told, while it is down; they are not counted as calls, nor find the power gone.
func TestFaultsWhileDown(t *testing.T) {
	d := made(t, 5)
	write(t, d, 4, rising(4))
	d.Arm(1)
	spoil(t, d, 3, 0, 1)
	if d.Down() || d.Flush() != api.ErrCrash {
		t.Fatal("armed")
	}
	spoil(t, d, 0, 0, 0x0102)
	fail(t, d, 1)
	if d.Spoil(4, 0, 1) || d.Fail(4) || d.Spoil(0, 0, 1) || d.Fail(1) || d.Spoil(2, 253, 1) || d.Fail(5) {
		t.Error("what is refused while up, down is not")
	}
	for i := range 5 {
		faulted(t, d, i, i == 0 || i == 1 || i == 3)
	}
	counts(t, d, 1, 1, 3)
	d.Crash()
	want := full(0)
	want[0], want[1] = 2, 1
	reads(t, d, 0, want, nil)
	reads(t, d, 1, nil, api.ErrIO)
	reads(t, d, 4, full(0), nil)
	counts(t, d, 0, 1, 3)
}

// A Clone goes its own way, and so does the one that it came of: what is pending, flushed, faulted, counted.
func TestCloneGoesItsOwnWay(t *testing.T) {
	for _, first := range []bool{false, true} {
		d, turned := bothFaults(t)
		write(t, d, 2, rising(2))
		a, b := d.Clone(), d
		if first {
			a, b = b, a
		}
		write(t, a, 0, rising(9))
		write(t, a, 2, rising(9))
		flush(t, a)
		if !a.Raw(1, rising(9)) {
			t.Error("Raw")
		}
		fail(t, a, 2)
		a.Arm(1)
		if a.Flush() != api.ErrCrash {
			t.Error("armed")
		}
		reads(t, b, 0, turned, nil)
		reads(t, b, 1, nil, api.ErrIO)
		reads(t, b, 2, rising(2), nil)
		counts(t, b, 1, 5, 2)
		if b.Down() || !b.Faulted(0) || !b.Faulted(1) || b.Faulted(2) {
			t.Error("the other one shows it")
		}
		b.Crash()
		if !a.Down() {
			t.Error("the other one brings it up")
		}
		a.Crash()
		reads(t, b, 2, rising(1), nil)
		reads(t, a, 0, rising(9), nil)
		reads(t, a, 1, rising(9), nil)
		reads(t, a, 2, nil, api.ErrIO)
		counts(t, a, 0, 8, 3)
	}
}

// A Clone is as the device is: armed, and down, too.
func TestCloneIsAsItWas(t *testing.T) {
	d := made(t, 2)
	write(t, d, 0, rising(1))
	d.Arm(3)
	flush(t, d)
	write(t, d, 1, rising(2))
	c := d.Clone()
	if c.Blocks() != 2 || c.Down() {
		t.Error(c.Blocks(), c.Down())
	}
	counts(t, c, 1, 3, 0)
	if c.Flush() != api.ErrCrash || !c.Down() || d.Down() {
		t.Error("armed for one more")
	}
	e := c.Clone()
	reads(t, e, 0, nil, api.ErrCrash)
	if !e.Down() || e.Flush() != api.ErrCrash {
		t.Error("down")
	}
	e.Crash(1)
	reads(t, e, 0, rising(1), nil)
	reads(t, e, 1, rising(2), nil)
	c.Crash()
	reads(t, c, 1, full(0), nil)
	if d.Flush() != api.ErrCrash {
		t.Error("the first one is disarmed")
	}
}

// P0.5: the same calls, the same answers, however many blocks are pending.
func TestSameAgain(t *testing.T) {
	end := func() []byte {
		d := made(t, 64)
		for k := range 300 {
			write(t, d, k*k%61, rising(byte(k)))
		}
		d.Crash(0, 1, 1, 0, 3, 2, 2, -1, 1, 1, 0, 1, 7, 8)
		var out []byte
		for i := range 64 {
			b, _ := d.Read(i)
			out = append(out, b...)
		}
		return out
	}
	want := end()
	for range 20 {
		if !bytes.Equal(end(), want) {
			t.Fatal("not the same again")
		}
	}
}
