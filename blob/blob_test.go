package blob

import (
	"bytes"
	"math"
	"slices"
	"testing"

	"breviary/api"
	"breviary/crc"
	"breviary/dev"
)

// full is a block of the byte c.
func full(c byte) []byte { return bytes.Repeat([]byte{c}, api.BlockSize) }

// rising is a block of other bytes at each place.
func rising(c byte) []byte {
	out := full(c)
	for i := range out {
		out[i] += byte(i)
	}
	return out
}

// padded is b as a block has it.
func padded(b []byte) []byte {
	out := full(0)
	copy(out, b)
	return out
}

func device(t *testing.T, blocks int) *dev.Device {
	t.Helper()
	d, err := dev.New(blocks)
	if err != nil {
		t.Fatal(err)
	}
	return d
}

func opened(t *testing.T, d *dev.Device, used ...api.Ref) *Area {
	t.Helper()
	a, err := Open(d, used...)
	if a == nil || err != nil {
		t.Fatalf("Open: %v", err)
	}
	return a
}

func made(t *testing.T, blocks int, used ...api.Ref) (*dev.Device, *Area) {
	t.Helper()
	d := device(t, blocks)
	return d, opened(t, d, used...)
}

// at are Refs of these places, whatever they have.
func at(places ...int) []api.Ref {
	out := []api.Ref{}
	for _, i := range places {
		out = append(out, api.Ref{Addr: i, Sum: uint32(i)})
	}
	return out
}

// to are the places from low to high, not with it.
func to(low, high int) []int {
	out := []int{}
	for i := low; i < high; i++ {
		out = append(out, i)
	}
	return out
}

// but are all data blocks of a device of 300, without some.
func but(places ...int) []api.Ref {
	return at(slices.DeleteFunc(to(150, 300), func(i int) bool { return slices.Contains(places, i) })...)
}

// put puts b, and holds where it comes, and what it is read by.
func put(t *testing.T, a *Area, b []byte, place int) api.Ref {
	t.Helper()
	r, err := a.Put(b)
	if err != nil || r != (api.Ref{Addr: place, Sum: crc.Sum(padded(b))}) {
		t.Fatalf("Put: %v %v, not at %d", r, err, place)
	}
	return r
}

func puts(t *testing.T, a *Area, b []byte, err error) {
	t.Helper()
	if r, e := a.Put(b); r != (api.Ref{}) || e != err {
		t.Errorf("Put of %d bytes: %v %v, not %v", len(b), r, e, err)
	}
}

// low puts b low, and holds where it comes, and what it is read by.
func low(t *testing.T, a *Area, b []byte, below, place int) api.Ref {
	t.Helper()
	r, ok, err := a.Low(b, below)
	if err != nil || !ok || r != (api.Ref{Addr: place, Sum: crc.Sum(padded(b))}) {
		t.Fatalf("Low below %d: %v %v %v, not at %d", below, r, ok, err, place)
	}
	return r
}

func lows(t *testing.T, a *Area, b []byte, below int, err error) {
	t.Helper()
	if r, ok, e := a.Low(b, below); r != (api.Ref{}) || ok || e != err {
		t.Errorf("Low of %d bytes, below %d: %v %v %v, not %v", len(b), below, r, ok, e, err)
	}
}

// gets holds what is got against want, or against err with nothing beside it; and Good against both.
func gets(t *testing.T, a *Area, r api.Ref, want []byte, err error) {
	t.Helper()
	got, e := a.Get(r)
	if e != err || !bytes.Equal(got, want) || err != nil && len(got) > 0 {
		t.Errorf("Get(%v): %v %v, not %v %v", r, got, e, want, err)
	}
	if a.Good(r) != (err == nil) {
		t.Errorf("Good(%v): %v", r, err != nil)
	}
}

func drops(t *testing.T, a *Area, r api.Ref, want bool) {
	t.Helper()
	if a.Drop(r) != want {
		t.Errorf("Drop(%v): not %v", r, want)
	}
}

// has holds which blocks are in use, and how many are left.
func has(t *testing.T, a *Area, used []int, left int) {
	t.Helper()
	if got := a.Used(); !slices.Equal(got, used) || a.Left() != left {
		t.Errorf("Used(), Left(): %v %d, not %v %d", got, a.Left(), used, left)
	}
}

func flush(t *testing.T, d *dev.Device) {
	t.Helper()
	if err := d.Flush(); err != nil {
		t.Fatal(err)
	}
}

// fell takes the power.
func fell(t *testing.T, d *dev.Device) {
	t.Helper()
	d.Arm(1)
	if d.Flush() != api.ErrCrash {
		t.Fatal("there is power")
	}
}

// callsLeft is how many Writes or Flushes a device still does, as far as 4.
func callsLeft(d *dev.Device) int {
	c := d.Clone()
	for n := range 4 {
		if c.Flush() != nil {
			return n
		}
	}
	return 4
}

// alike holds two devices against each other by all that they tell, and then behind a fall.
func alike(t *testing.T, got, want *dev.Device) {
	t.Helper()
	if got.Down() != want.Down() || got.Calls() != want.Calls() || got.Pending() != want.Pending() || got.Ever() != want.Ever() || callsLeft(got) != callsLeft(want) {
		t.Errorf("the device is another one: down %v, %d calls, %d pending, %d ever faulted", got.Down(), got.Calls(), got.Pending(), got.Ever())
	}
	got, want = got.Clone(), want.Clone()
	for range 2 {
		for i := range want.Blocks() {
			a, e := got.Read(i)
			b, f := want.Read(i)
			if e != f || !bytes.Equal(a, b) || got.Faulted(i) != want.Faulted(i) {
				t.Errorf("block %d is another one: %v %v, not %v %v", i, a, e, b, f)
			}
		}
		got.Crash()
		want.Crash()
	}
}

// noData are places that are no data of a device: below 0, mirrored, past the end.
func noData(blocks, half int) []int {
	return []int{math.MinInt, math.MinInt + 1, -blocks, -2 * half, -2, -1, 0, 1, half - 1, half, 2*half - 2, 2*half - 1, blocks, blocks + 1, 2 * blocks, api.MaxBlocks, 1 << 32, math.MaxInt - 1, math.MaxInt}
}

// tooLong are bytes that no block has room for.
func tooLong() [][]byte {
	return [][]byte{make([]byte, 257), append(full(1), 0), bytes.Repeat([]byte{3}, 512), make([]byte, 1<<20)}
}

// P9.1: Open refuses what geo.Of does, with nothing beside, ahead of what is wrong with used.
func TestOpenBlocks(t *testing.T) {
	for _, blocks := range []int{1, 2, 75, 150, 298, 299} {
		for _, used := range [][]api.Ref{nil, at(blocks - 1), at(-1), at(200, 200)} {
			if a, err := Open(device(t, blocks), used...); a != nil || err != api.ErrRange {
				t.Errorf("Open of %d blocks: %v %v", blocks, a, err)
			}
		}
	}
}

// P9.1: none of used may be no data, wherever it stands among the others.
func TestOpenNoData(t *testing.T) {
	for _, c := range [][2]int{{300, 75}, {403, 100}, {2052, 512}, {6000, 512}} {
		d := device(t, c[0])
		was := d.Clone()
		for _, i := range noData(c[0], c[1]) {
			for _, used := range [][]api.Ref{at(i), at(i, 2*c[1]), at(2*c[1], i), at(2*c[1], i, c[0]-1)} {
				if a, err := Open(d, used...); a != nil || err != api.ErrRange {
					t.Errorf("Open of %d blocks, %v: %v %v", c[0], used, a, err)
				}
			}
		}
		alike(t, d, was)
	}
}

// P9.1: none of used may stand there twice, with another Sum, too.
func TestOpenTwice(t *testing.T) {
	d := device(t, 400)
	for _, used := range [][]api.Ref{at(200, 200), at(399, 399), at(250, 200, 399, 250), {{Addr: 250, Sum: 1}, {Addr: 250, Sum: 2}}, append(at(to(200, 400)...), api.Ref{Addr: 311})} {
		if a, err := Open(d, used...); a != nil || err != api.ErrRange {
			t.Errorf("Open of %v: %v %v", used, a, err)
		}
	}
}

// P9.1: those of used are in use, whatever their Sums say; all else that is data is left. Open changes nothing of the device.
func TestOpenUsed(t *testing.T) {
	for _, c := range []struct {
		blocks int
		used   []int
		left   int
	}{
		{300, nil, 150}, {300, []int{150}, 149}, {303, []int{299, 150, 302, 151}, 149}, {400, to(200, 400), 0},
		{400, []int{399, 200}, 198}, {2047, []int{1022}, 1024}, {2052, []int{1024, 2051}, 1026}, {6000, []int{5999, 1024, 3000}, 4973},
	} {
		d := device(t, c.blocks)
		d.Fail(c.blocks - 1)
		was := d.Clone()
		a := opened(t, d, at(c.used...)...)
		has(t, a, slices.Sorted(slices.Values(c.used)), c.left)
		alike(t, d, was)
	}
}

// P9.1: Open asks for the geometry only: a device that is down opens.
func TestOpenDown(t *testing.T) {
	d, a := made(t, 400)
	r := put(t, a, []byte("abc"), 200)
	flush(t, d)
	fell(t, d)
	b := opened(t, d, r)
	gets(t, b, r, nil, api.ErrCrash)
	d.Crash()
	gets(t, b, r, padded([]byte("abc")), nil)
	put(t, b, nil, 201)
}

// P0.4: what Open is handed is neither changed nor kept, and what is behind its length not looked at.
func TestOpenMemory(t *testing.T) {
	list := at(250, 399, 0, 250)
	handed := slices.Clone(list)
	_, a := made(t, 400, list[:2]...)
	if !slices.Equal(list, handed) {
		t.Error("changed")
	}
	list[0], list[1] = api.Ref{Addr: 260}, api.Ref{Addr: 261}
	has(t, a, []int{250, 399}, 198)
	drops(t, a, api.Ref{Addr: 260}, false)
	drops(t, a, api.Ref{Addr: 250}, true)
}

// P9.1: Put of each length: the block has the bytes, and 0s behind, whatever it had; it is in use; nothing else is written.
func TestPutEach(t *testing.T) {
	d := device(t, 800)
	for i := range 800 {
		d.Raw(i, full(9))
	}
	a := opened(t, d)
	refs := []api.Ref{}
	for n := range 257 {
		refs = append(refs, put(t, a, rising(byte(n))[:n], 400+n))
		if d.Pending() != n+1 || d.Calls() != n+1 {
			t.Fatalf("%d pending, %d calls behind %d Puts", d.Pending(), d.Calls(), n+1)
		}
	}
	has(t, a, to(400, 657), 143)
	flush(t, d)
	for n, r := range refs {
		gets(t, a, r, padded(rising(byte(n))[:n]), nil)
	}
	for i := range 800 {
		want := full(9)
		if i >= 400 && i < 657 {
			want = padded(rising(byte(i - 400))[:i-400])
		}
		if b, err := d.Read(i); err != nil || !bytes.Equal(b, want) {
			t.Errorf("block %d: %v %v", i, b, err)
		}
	}
}

// P9.1: what is put is pending till a flush, as it is of any Write.
func TestPutPending(t *testing.T) {
	for pick := range 2 {
		d, a := made(t, 300)
		r := put(t, a, rising(1), 150)
		gets(t, a, r, rising(1), nil)
		d.Crash(pick)
		a = opened(t, d, r)
		want, err := rising(1), error(nil)
		if pick == 0 {
			want, err = nil, api.ErrIO
		}
		gets(t, a, r, want, err)
	}
}

// P9.1: more than BlockSize bytes are ErrRange, ahead of all else, and change nothing.
func TestTooLong(t *testing.T) {
	for _, left := range []int{0, 2} {
		d, a := made(t, 300, but([]int{160, 170}[:left]...)...)
		used, was := a.Used(), d.Clone()
		for range 2 {
			for _, b := range tooLong() {
				puts(t, a, b, api.ErrRange)
				for _, below := range []int{-1, 0, 160, 161, 300, math.MaxInt} {
					lows(t, a, b, below, api.ErrRange)
				}
			}
			has(t, a, used, left)
			alike(t, d, was)
			fell(t, d)
			was = d.Clone()
		}
		d.Crash()
		if left > 0 {
			put(t, a, full(1), 160)
		}
	}
}

// P9.1: ErrFull, where no block is neither in use nor held: ahead of the device's error, and without a Write.
func TestFull(t *testing.T) {
	for _, dropped := range []int{0, 1, 150} { // in use, or held: there is none
		d, a := made(t, 300, but(299)...)
		put(t, a, full(1), 299)
		flush(t, d)
		for i := range dropped {
			drops(t, a, api.Ref{Addr: 150 + i}, true)
		}
		d.Arm(1)
		for range 2 {
			was := d.Clone()
			for _, b := range [][]byte{nil, {1}, full(2)} {
				puts(t, a, b, api.ErrFull)
				lows(t, a, b, math.MaxInt, nil)
			}
			has(t, a, to(150+dropped, 300), 0)
			alike(t, d, was)
			_ = d.Flush() // the power is gone
		}
	}
}

// P9.1: Put goes on behind the one that it put last, passes over what is in use or held, and comes round.
func TestPutRound(t *testing.T) {
	_, a := made(t, 300, at(150, 152, 298)...)
	put(t, a, full(1), 151)
	r := put(t, a, full(2), 153)
	drops(t, a, r, true)
	a.Done()
	drops(t, a, api.Ref{Addr: 150}, true)
	for i := 154; i < 298; i++ {
		put(t, a, full(byte(i)), i)
	}
	put(t, a, full(3), 299)
	put(t, a, full(4), 153) // 150 is held, 151 and 152 in use
	puts(t, a, full(5), api.ErrFull)
	a.Done()
	put(t, a, full(6), 150)
	puts(t, a, full(5), api.ErrFull)
	for _, i := range []int{299, 150, 151, 160} {
		drops(t, a, api.Ref{Addr: i}, true)
	}
	a.Done()
	for _, i := range []int{151, 160, 299, 150} {
		put(t, a, full(7), i)
	}
	has(t, a, to(150, 300), 0)
}

// P9.1: the round comes back to the very block that was put last, wherever it is; a block ahead of it is taken only behind those that follow it.
func TestPutSameAgain(t *testing.T) {
	for _, i := range []int{150, 151, 222, 298, 299} {
		_, a := made(t, 300, but(i)...)
		for n := range 3 {
			r := put(t, a, full(byte(n)), i)
			puts(t, a, nil, api.ErrFull)
			drops(t, a, r, true)
			puts(t, a, nil, api.ErrFull)
			a.Done()
			has(t, a, slices.DeleteFunc(to(150, 300), func(k int) bool { return k == i }), 1)
		}
	}
}

// P9.1: an area begins with its first data block, whatever was put by another one.
func TestPutBegins(t *testing.T) {
	for _, c := range [][2]int{{300, 150}, {303, 150}, {304, 152}, {400, 200}, {2047, 1022}, {2052, 1024}, {6000, 1024}} {
		d, a := made(t, c[0])
		r := put(t, a, full(1), c[1])
		s := put(t, a, full(2), c[1]+1)
		b := opened(t, d, s)
		put(t, b, full(3), c[1])
		gets(t, b, s, full(2), nil)
		gets(t, a, r, nil, api.ErrIO)
	}
}

// P9.1: neither Low nor a Put that failed moves the place from which Put goes on.
func TestPutGoesOn(t *testing.T) {
	d, a := made(t, 300)
	for i := 150; i < 154; i++ {
		put(t, a, full(1), i)
	}
	drops(t, a, api.Ref{Addr: 150}, true)
	drops(t, a, api.Ref{Addr: 151}, true)
	a.Done()
	low(t, a, full(2), 300, 150)
	put(t, a, full(3), 154) // not 151
	for _, i := range []int{151, 155, 156} {
		low(t, a, full(4), 300, i)
	}
	drops(t, a, api.Ref{Addr: 155}, true)
	a.Done()
	puts(t, a, tooLong()[0], api.ErrRange)
	d.Arm(1)
	puts(t, a, full(5), api.ErrCrash)
	d.Crash()
	put(t, a, full(5), 155) // not 157, nor 156
}

// P9.1: Low takes the least block that is left, if its address is below below; each bound about it.
func TestLow(t *testing.T) {
	for _, i := range []int{150, 151, 222, 299} {
		d, a := made(t, 300, but(to(i, 300)...)...)
		was := d.Clone()
		for _, below := range []int{math.MinInt, -1, 0, 1, 75, 149, 150, i - 1, i} {
			lows(t, a, full(1), below, nil)
			lows(t, a, nil, below, nil)
		}
		has(t, a, to(150, i), 300-i)
		alike(t, d, was)
		for n, below := range []int{i + 1, 299, 300, 301, math.MaxInt} {
			_, b := made(t, 300, but(to(i, 300)...)...)
			if below > i {
				r := low(t, b, rising(byte(n))[:n], below, i)
				gets(t, b, r, padded(rising(byte(n))[:n]), nil)
				has(t, b, to(150, i+1), 299-i)
			}
		}
	}
}

// P9.1: Low, again and again, fills from below; it takes what lies ahead of Put's last, too, and nothing that is held.
func TestLowFills(t *testing.T) {
	d, a := made(t, 300, at(150, 153)...)
	for i := 151; i < 200; i++ {
		if i != 153 {
			put(t, a, full(byte(i)), i)
		}
	}
	drops(t, a, api.Ref{Addr: 160}, true)
	drops(t, a, api.Ref{Addr: 155}, true)
	lows(t, a, full(1), 200, nil)
	low(t, a, full(1), 201, 200)
	a.Done()
	lows(t, a, full(2), 155, nil)
	low(t, a, full(2), 156, 155)
	low(t, a, full(3), 300, 160)
	for i := 201; i < 300; i++ {
		lows(t, a, full(4), i, nil)
		low(t, a, full(4), i+1, i)
	}
	lows(t, a, full(4), math.MaxInt, nil)
	has(t, a, to(150, 300), 0)
	if d.Calls() != 149+1 { // 148 were left, and two were dropped
		t.Error(d.Calls(), "calls")
	}
}

// P9.1: where the power is gone, Put and Low answer ErrCrash, and nothing is in use by them; Low's false comes ahead of it.
func TestPutCrash(t *testing.T) {
	d, a := made(t, 300, at(150)...)
	for range 2 {
		d.Arm(1)
		lows(t, a, full(1), 151, nil)
		if d.Down() {
			t.Error("down by a Low of false")
		}
		puts(t, a, full(1), api.ErrCrash)
		puts(t, a, nil, api.ErrCrash)
		lows(t, a, full(1), 152, api.ErrCrash)
		lows(t, a, full(1), 151, nil)
		has(t, a, []int{150}, 149)
		d.Crash(1)
		d.Arm(1)
		lows(t, a, full(1), 152, api.ErrCrash)
		has(t, a, []int{150}, 149)
		d.Crash(1)
	}
	if d.Calls() != 0 || d.Pending() != 0 {
		t.Error(d.Calls(), d.Pending())
	}
	put(t, a, full(1), 151)
}

// P0.4: Put and Low keep nothing of what they are handed, change nothing of it, and take nothing of what is behind its length.
func TestPutMemory(t *testing.T) {
	_, a := made(t, 300)
	room := rising(1)
	r := put(t, a, room[:100], 150)
	s := low(t, a, room[100:107], 300, 151)
	if !bytes.Equal(room, rising(1)) {
		t.Error("changed")
	}
	clear(room)
	gets(t, a, r, padded(rising(1)[:100]), nil)
	gets(t, a, s, padded(rising(1)[100:107]), nil)
}

// P9.1: Get of what is no data is ErrRange, ahead of ErrCrash, whatever Sum it has.
func TestGetRange(t *testing.T) {
	for _, c := range [][2]int{{300, 75}, {403, 100}, {2052, 512}} {
		d, a := made(t, c[0])
		for range 2 {
			for _, i := range noData(c[0], c[1]) {
				for _, sum := range []uint32{0, 1, crc.Sum(full(0)), math.MaxUint32} {
					gets(t, a, api.Ref{Addr: i, Sum: sum}, nil, api.ErrRange)
				}
			}
			fell(t, d)
		}
	}
}

// P9.1: Get tells each data block that has the Sum, in use or not, held or not; of another Sum it is ErrIO.
func TestGetAny(t *testing.T) {
	d, a := made(t, 300, at(160)...)
	d.Raw(160, rising(3))
	d.Raw(170, rising(4))
	r := put(t, a, rising(1), 150)
	s := put(t, a, rising(2), 151)
	drops(t, a, s, true)
	was := d.Clone()
	for range 2 {
		for i := 150; i < 300; i++ {
			want := map[int][]byte{150: rising(1), 151: rising(2), 160: rising(3), 170: rising(4)}[i]
			if want == nil {
				want = full(0)
			}
			sum := crc.Sum(want)
			gets(t, a, api.Ref{Addr: i, Sum: sum}, want, nil)
			for _, other := range []uint32{0, sum + 1, sum ^ 1<<31, ^sum, crc.Sum(rising(9)), crc.Sum(nil)} {
				gets(t, a, api.Ref{Addr: i, Sum: other}, nil, api.ErrIO)
			}
		}
		gets(t, a, api.Ref{Addr: r.Addr, Sum: s.Sum}, nil, api.ErrIO)
		a.Done()
	}
	alike(t, d, was)
	has(t, a, []int{150, 160}, 148)
}

// P9.1: of a block that can't be read, and of one that was turned, Get is ErrIO, and no Good; it stays in use. While the device is down it is ErrCrash, ahead of ErrIO.
func TestGetFaulted(t *testing.T) {
	d, a := made(t, 300)
	sound, spoilt, failed := put(t, a, rising(1), 150), put(t, a, rising(2), 151), put(t, a, rising(3), 152)
	wrong := api.Ref{Addr: 150, Sum: sound.Sum + 1}
	flush(t, d)
	d.Spoil(151, 77, 1<<9)
	d.Fail(152)
	was := d.Clone()
	for range 2 {
		gets(t, a, sound, rising(1), nil)
		gets(t, a, spoilt, nil, api.ErrIO)
		gets(t, a, failed, nil, api.ErrIO)
		gets(t, a, api.Ref{Addr: 151, Sum: crc.Sum(crc.Turned(rising(2), 77, 1<<9))}, crc.Turned(rising(2), 77, 1<<9), nil)
		has(t, a, []int{150, 151, 152}, 147)
		alike(t, d, was)
		c := d.Clone()
		b := opened(t, c, sound, spoilt, failed)
		fell(t, c)
		for _, r := range []api.Ref{sound, wrong, spoilt, failed, {Addr: 299}} {
			gets(t, b, r, nil, api.ErrCrash)
		}
		has(t, b, []int{150, 151, 152}, 147)
	}
	for _, r := range []api.Ref{spoilt, failed} {
		drops(t, a, r, true)
	}
	a.Done()
	low(t, a, rising(2), 152, 151) // what is written anew is sound again
	low(t, a, rising(3), 153, 152)
	flush(t, d)
	gets(t, a, spoilt, rising(2), nil)
	gets(t, a, failed, rising(3), nil)
}

// P9.1: wherever a block is turned, and by whatever bits, it is ErrIO: never told as if it were right.
func TestEachTurn(t *testing.T) {
	d, a := made(t, 300)
	r := put(t, a, []byte("abc"), 150)
	s := put(t, a, rising(5), 151)
	flush(t, d)
	sound := d.Clone()
	for at := 0; at <= 252; at++ {
		for _, bits := range []uint32{1, 0x80, 0x8000, 0x01000000, 0x80000000, 0x00ffff00, 0xdeadbeef, math.MaxUint32} {
			*d = *sound.Clone()
			if !d.Spoil(150, at, bits) || !d.Spoil(151, at, bits) {
				t.Fatal("Spoil", at, bits)
			}
			gets(t, a, r, nil, api.ErrIO)
			gets(t, a, s, nil, api.ErrIO)
		}
	}
}

// P0.4: what Get and Used answer is new memory: whoever writes into it, or behind it, changes nothing.
func TestAnswersMemory(t *testing.T) {
	d, a := made(t, 300, at(160, 170, 299)...)
	r := put(t, a, rising(1), 150)
	b, err := a.Get(r)
	if err != nil {
		t.Fatal(err)
	}
	c, _ := a.Get(r)
	clear(b[:cap(b)])
	if !bytes.Equal(c, rising(1)) {
		t.Error("two answers share their memory")
	}
	gets(t, a, r, rising(1), nil)
	flush(t, d)
	gets(t, a, r, rising(1), nil)
	u, v := a.Used(), a.Used()
	for i := range u[:cap(u)] {
		u[:cap(u)][i] = 200
	}
	if !slices.Equal(v, []int{150, 160, 170, 299}) {
		t.Error("two answers share their memory")
	}
	has(t, a, []int{150, 160, 170, 299}, 146)
	put(t, a, nil, 151)
}

// P9.1: Drop goes by the Addr alone; false of what is not in use: no data, free, held.
func TestDrop(t *testing.T) {
	d, a := made(t, 300, at(150, 222, 299)...)
	was := d.Clone()
	for _, i := range noData(300, 75) {
		drops(t, a, api.Ref{Addr: i}, false)
	}
	for i := 150; i < 300; i++ {
		in := i == 150 || i == 222 || i == 299
		drops(t, a, api.Ref{Addr: i, Sum: 7}, in)
		drops(t, a, api.Ref{Addr: i}, false)
	}
	has(t, a, nil, 147)
	a.Done()
	for i := 150; i < 300; i++ {
		drops(t, a, api.Ref{Addr: i}, false)
	}
	has(t, a, nil, 150)
	alike(t, d, was)
}

// P9.1: what is dropped is held till Done: not in use, not left, and told by Get; behind Done it is left.
func TestDone(t *testing.T) {
	d, a := made(t, 300, but(150, 151, 152)...)
	a.Done()
	r, s := put(t, a, rising(1), 150), put(t, a, rising(2), 151)
	for n := range 3 {
		drops(t, a, s, true)
		drops(t, a, s, false)
		has(t, a, slices.DeleteFunc(to(150, 300), func(i int) bool { return i == 151 || i == 152 }), 1)
		gets(t, a, s, rising(byte(2+n)), nil)
		lows(t, a, nil, 152, nil)
		calls := d.Calls()
		a.Done()
		a.Done()
		if d.Calls() != calls {
			t.Error("Done wrote")
		}
		has(t, a, slices.DeleteFunc(to(150, 300), func(i int) bool { return i == 151 || i == 152 }), 2)
		gets(t, a, s, rising(byte(2+n)), nil)
		s = low(t, a, rising(byte(3+n)), 152, 151)
	}
	gets(t, a, r, rising(1), nil)
	fell(t, d) // neither asks the device
	drops(t, a, r, true)
	a.Done()
	drops(t, a, s, true)
	has(t, a, to(153, 300), 2)
}

// P9.2: whatever is put while blocks are held, these have what they had; behind a fall with any picks, too.
func TestHeldStays(t *testing.T) {
	d, a := made(t, 300, but(to(150, 158)...)...)
	refs := []api.Ref{}
	for i := 150; i < 156; i++ {
		refs = append(refs, put(t, a, rising(byte(i)), i))
	}
	flush(t, d) // committed, say
	for _, r := range refs {
		drops(t, a, r, true)
	}
	anew := []api.Ref{put(t, a, full(1), 156), low(t, a, full(2), 300, 157)}
	puts(t, a, full(3), api.ErrFull)
	lows(t, a, full(3), 300, nil)
	drops(t, a, anew[0], true) // one that was put since is held likewise
	puts(t, a, full(3), api.ErrFull)
	gets(t, a, anew[0], full(1), nil)
	for _, picks := range [][]int{nil, {0}, {1}, {0, 1}, {1, 1}} {
		c := d.Clone()
		c.Crash(picks...)
		b := opened(t, c, append(but(to(150, 158)...), refs...)...)
		for i, r := range refs {
			gets(t, b, r, rising(byte(150+i)), nil)
		}
		put(t, b, full(4), 156)
	}
	a.Done()
	for i := 150; i < 157; i++ { // 157 is in use: round
		put(t, a, full(5), i)
	}
	has(t, a, to(150, 300), 0)
}
