package root

import (
	"bytes"
	"math"
	"testing"

	"breviary/api"
	"breviary/dev"
)

func made(t *testing.T, blocks int) *dev.Device {
	t.Helper()
	d, err := dev.New(blocks)
	if err != nil {
		t.Fatal(err)
	}
	return d
}

// of is a root of that Epoch, other than those of others.
func of(e int64) Root {
	return Root{Epoch: e, Refs: []api.Ref{{Addr: int(e % 6000), Sum: uint32(e)}, {Addr: 3, Sum: 9}}}
}

func save(t *testing.T, d *dev.Device, r Root) {
	t.Helper()
	if err := Save(d, r); err != nil {
		t.Fatalf("Save of Epoch %d: %v", r.Epoch, err)
	}
}

// loads holds what Load tells; a want of Epoch 0: no root.
func loads(t *testing.T, d *dev.Device, want Root) {
	t.Helper()
	if r, is, err := Load(d); err != nil || is != (want.Epoch > 0) || !same(r, want) {
		t.Errorf("Load: %v %v %v, not %v", r, is, err, want)
	}
}

func copies(t *testing.T, d *dev.Device, want int) {
	t.Helper()
	if n, err := Copies(d); n != want || err != nil {
		t.Errorf("Copies: %d %v, not %d", n, err, want)
	}
}

// refuses holds what Load and Copies answer beside an error: nothing.
func refuses(t *testing.T, d *dev.Device, want error) {
	t.Helper()
	if r, is, err := Load(d); !none(r) || is || err != want {
		t.Errorf("Load: %v %v %v, not %v", r, is, err, want)
	}
	if n, err := Copies(d); n != 0 || err != want {
		t.Errorf("Copies: %d %v, not %v", n, err, want)
	}
}

// holds holds what the device itself has in a block.
func holds(t *testing.T, d *dev.Device, i int, want []byte) {
	t.Helper()
	if b, err := d.Read(i); err != nil || !bytes.Equal(b, want) {
		t.Errorf("block %d: %v %v, not %v", i, b, err, want)
	}
}

// harm does one of the kinds of fault: none; unreadable; turned, at some place.
func harm(t *testing.T, d *dev.Device, kind, i int) {
	t.Helper()
	ok := true
	switch {
	case kind == 1:
		ok = d.Fail(i)
	case kind > 1:
		ok = d.Spoil(i, 3*(kind-2), 1<<(kind%32))
	}
	if !ok {
		t.Fatal("no fault", kind, i)
	}
}

// powered tells after how many Writes and Flushes the power will be gone, as far as 9.
func powered(d *dev.Device) int {
	c := d.Clone()
	for n := range 9 {
		if c.Flush() != nil {
			return n
		}
	}
	return 9
}

// alike holds two devices against each other by all that they tell, and then behind a fall.
func alike(t *testing.T, got, want *dev.Device) {
	t.Helper()
	if got.Down() != want.Down() || got.Calls() != want.Calls() || got.Pending() != want.Pending() || got.Ever() != want.Ever() || powered(got) != powered(want) {
		t.Errorf("the device is another one: down %v, %d calls, %d pending, %d ever faulted", got.Down(), got.Calls(), got.Pending(), got.Ever())
	}
	got, want = got.Clone(), want.Clone()
	for range 2 {
		for i := range want.Blocks() {
			a, e := got.Read(i)
			b, f := want.Read(i)
			if e != f || !bytes.Equal(a, b) || got.Faulted(i) != want.Faulted(i) {
				t.Errorf("block %d is another one: %v %v, not %v %v", i, a, e, b, f)
			}
		}
		got.Crash()
		want.Crash()
	}
}

// sizes are devices' blocks, and their Half: the least, the greatest, and some between.
func sizes() [][2]int {
	return [][2]int{{300, 75}, {303, 75}, {304, 76}, {400, 100}, {2047, 511}, {2052, 512}, {6000, 512}}
}

// fall takes the device's power.
func fall(t *testing.T, d *dev.Device) {
	t.Helper()
	d.Arm(1)
	if d.Flush() != api.ErrCrash {
		t.Fatal("armed")
	}
}

// P6.3: what geo.Of refuses comes ahead of all else: of the root's own errors, of the power.
func TestTooSmall(t *testing.T) {
	for _, blocks := range []int{1, 2, 75, 150, 299} {
		for _, down := range []bool{false, true} {
			d := made(t, blocks)
			if down {
				fall(t, d)
			}
			was := d.Clone()
			for _, r := range []Root{of(1), {}, {Epoch: 1, Refs: make([]api.Ref, 17)}} {
				if err := Save(d, r); err != api.ErrRange {
					t.Errorf("Save to %d blocks: %v", blocks, err)
				}
			}
			refuses(t, d, api.ErrRange)
			alike(t, d, was)
		}
	}
}

// P6.3: what Bytes refuses comes ahead of the power, and changes nothing.
func TestSaveRefused(t *testing.T) {
	for _, down := range []bool{false, true} {
		d := made(t, 400)
		save(t, d, of(5))
		if err := d.Write(9, make([]byte, api.BlockSize)); err != nil {
			t.Fatal(err)
		}
		if down {
			fall(t, d)
		} else {
			d.Arm(1)
		}
		was := d.Clone()
		for _, x := range []struct {
			r   Root
			err error
		}{
			{Root{}, api.ErrRange},
			{Root{Epoch: -1}, api.ErrRange},
			{Root{Epoch: 1<<40 + 1}, api.ErrRange},
			{Root{Epoch: math.MinInt64}, api.ErrRange},
			{Root{Epoch: 6, Refs: []api.Ref{{Addr: -1}}}, api.ErrRange},
			{Root{Epoch: 6, Refs: []api.Ref{{}, {Addr: api.MaxBlocks + 1}}}, api.ErrRange},
			{Root{Epoch: 6, Refs: make([]api.Ref, 17)}, api.ErrMany},
			{Root{Epoch: 0, Refs: make([]api.Ref, 17)}, api.ErrRange},
		} {
			if err := Save(d, x.r); err != x.err {
				t.Errorf("Save(%v): %v, not %v", x.r, err, x.err)
			}
			alike(t, d, was)
		}
	}
}

// P6.3: while the device is down all are ErrCrash; behind it all is as it was.
func TestDown(t *testing.T) {
	d := made(t, 400)
	save(t, d, of(5))
	fall(t, d)
	refuses(t, d, api.ErrCrash)
	if err := Save(d, of(6)); err != api.ErrCrash {
		t.Error(err)
	}
	d.Crash(1, 1)
	loads(t, d, of(5))
	copies(t, d, 2)
	holds(t, d, 0, make([]byte, api.BlockSize))
	n := made(t, 300)
	fall(t, n)
	refuses(t, n, api.ErrCrash)
}

// P6.3: while the device is down it is ErrCrash, though none of the four blocks could be read.
func TestDownUnreadable(t *testing.T) {
	d := made(t, 400)
	for _, i := range []int{0, 1, 100, 101} {
		harm(t, d, 1, i)
	}
	loads(t, d, Root{})
	copies(t, d, 0)
	fall(t, d)
	refuses(t, d, api.ErrCrash)
}

// P6.3, of the examples: a new device has no root; to ask changes nothing.
func TestLoadNew(t *testing.T) {
	for _, s := range sizes() {
		d := made(t, s[0])
		d.Arm(1)
		was := d.Clone()
		loads(t, d, Root{})
		copies(t, d, 0)
		alike(t, d, was)
	}
}

// P6.3: an even Epoch's blocks are 0 and its partner, an odd one's 1 and its; no others change, and it is flushed.
func TestSavePlaces(t *testing.T) {
	for _, s := range sizes() {
		d := made(t, s[0])
		want := make([][]byte, s[0])
		for i := range want {
			want[i] = make([]byte, api.BlockSize)
		}
		for _, e := range []int64{1, 2, 3, 4, 1 << 32, 1<<32 + 1, 1<<40 - 1, 1 << 40} {
			save(t, d, of(e))
			if d.Pending() != 0 {
				t.Error(d.Pending(), "pending")
			}
			b := laidOf(t, of(e))
			want[e%2], want[int(e%2)+s[1]] = b, b
			d.Crash()
			for i := range want {
				holds(t, d, i, want[i])
			}
			loads(t, d, of(e))
			copies(t, d, 2)
		}
	}
}

// P6.3: a Save flushes whatever was pending, and stands in the place of what could not be read.
func TestSaveFlushes(t *testing.T) {
	d := made(t, 300)
	save(t, d, of(3))
	harm(t, d, 1, 1)
	harm(t, d, 9, 76)
	loads(t, d, Root{})
	if err := d.Write(200, laidOf(t, of(9))); err != nil {
		t.Fatal(err)
	}
	save(t, d, of(5))
	d.Crash()
	holds(t, d, 200, laidOf(t, of(9)))
	loads(t, d, of(5))
	copies(t, d, 2)
	if d.Faulted(1) || d.Faulted(76) {
		t.Error("still faulted")
	}
}

// P6.3: a Save of a lesser Epoch is saved, too: Load tells the greatest of those that there are.
func TestSaveLesser(t *testing.T) {
	d := made(t, 300)
	save(t, d, of(8))
	save(t, d, of(5))
	loads(t, d, of(8))
	save(t, d, of(4))
	loads(t, d, of(5))
	copies(t, d, 2)
	save(t, d, Root{Epoch: 5})
	loads(t, d, Root{Epoch: 5})
	save(t, d, Root{Epoch: 5, Refs: refs(16)})
	loads(t, d, Root{Epoch: 5, Refs: refs(16)})
	copies(t, d, 2)
}

// P0.4: a Save keeps nothing of what it is handed; what Load answers is new memory, spare room too.
func TestSaveMemory(t *testing.T) {
	d := made(t, 300)
	r := Root{Epoch: 4, Refs: refs(3)}
	save(t, d, r)
	if !same(r, Root{Epoch: 4, Refs: refs(3)}) {
		t.Error("changed:", r)
	}
	clear(r.Refs)
	x, _, _ := Load(d)
	y, _, _ := Load(d)
	for i := range x.Refs[:cap(x.Refs)] {
		x.Refs[:cap(x.Refs)][i] = api.Ref{Addr: 7}
	}
	if !same(y, Root{Epoch: 4, Refs: refs(3)}) {
		t.Error("the answers share their memory:", y)
	}
	loads(t, d, y)
	copies(t, d, 2)
}

// raw lays what each of the four blocks has, past all Saves: 0 and its partner, 1 and its; of Epoch 0: all 0s.
func raw(t *testing.T, d *dev.Device, half int, roots ...Root) {
	t.Helper()
	for k, i := range []int{0, half, 1, half + 1} {
		b := make([]byte, api.BlockSize)
		if roots[k].Epoch > 0 {
			b = laidOf(t, roots[k])
		}
		if !d.Raw(i, b) {
			t.Fatal("Raw", i)
		}
	}
}

// P6.3: whichever of the four blocks are bad, and in whichever way, Load tells the greatest of the others; the greatest stands at each of the four.
func TestLoadGreatest(t *testing.T) {
	for turn := range 4 {
		for bad := range 3 * 3 * 3 * 3 {
			d := made(t, 300)
			var roots [4]Root
			for k := range 4 {
				roots[k] = of(int64(10 + (k+turn)%4))
			}
			raw(t, d, 75, roots[:]...)
			var want Root
			at := -1
			for k, rest := 0, bad; k < 4; k, rest = k+1, rest/3 {
				harm(t, d, rest%3*(1+k), k%2*75+k/2)
				if rest%3 == 0 && roots[k].Epoch > want.Epoch {
					want, at = roots[k], k
				}
			}
			was := d.Clone()
			loads(t, d, want)
			n := 0
			if at >= 0 && at/2 == int(want.Epoch%2) {
				n = 1
			}
			copies(t, d, n)
			alike(t, d, was)
		}
	}
}

// P6.3: Load looks at these four blocks alone.
func TestLoadElsewhere(t *testing.T) {
	for _, s := range sizes() {
		d := made(t, s[0])
		for i := range s[0] {
			if i != 0 && i != 1 && i != s[1] && i != s[1]+1 {
				d.Raw(i, laidOf(t, of(99)))
			}
		}
		loads(t, d, Root{})
		copies(t, d, 0)
		save(t, d, of(2))
		loads(t, d, of(2))
		copies(t, d, 2)
	}
}

// P6.3: what is pending is read as what is there, also in the place of what can't be read.
func TestLoadPending(t *testing.T) {
	d := made(t, 400)
	save(t, d, of(2))
	harm(t, d, 1, 101)
	for n, i := range []int{1, 101} {
		if err := d.Write(i, laidOf(t, of(3))); err != nil {
			t.Fatal(err)
		}
		loads(t, d, of(3))
		copies(t, d, n+1)
	}
	d.Crash()
	loads(t, d, of(2))
	copies(t, d, 2)
}

// P6.3 with P0.7: of several roots of the greatest Epoch the first is told; a copy is what has that one, all of it.
func TestLoadTie(t *testing.T) {
	a, b := Root{Epoch: 4, Refs: refs(2)}, Root{Epoch: 4, Refs: refs(3)}
	c := Root{Epoch: 4, Refs: []api.Ref{refs(2)[0], {Addr: refs(2)[1].Addr, Sum: refs(2)[1].Sum ^ 1}}}
	for _, x := range []struct {
		four   [4]Root
		want   Root
		copies int
	}{
		{[4]Root{a, b, {}, {}}, a, 1},
		{[4]Root{b, a, {}, {}}, b, 1},
		{[4]Root{a, c, {}, {}}, a, 1},
		{[4]Root{c, a, of(3), of(3)}, c, 1},
		{[4]Root{{}, c, a, a}, c, 1},
		{[4]Root{{}, {}, a, b}, a, 0},
		{[4]Root{{}, of(2), b, a}, b, 0},
		{[4]Root{{}, {}, {}, b}, b, 0},
		{[4]Root{a, a, a, a}, a, 2},
		{[4]Root{of(6), of(8), of(7), of(5)}, of(8), 1},
		{[4]Root{of(5), of(3), {}, of(5)}, of(5), 1},
		{[4]Root{of(5), of(5), of(3), {}}, of(5), 0},
		{[4]Root{{}, {}, {Epoch: 1}, {Epoch: 1}}, Root{Epoch: 1}, 2},
		{[4]Root{{Epoch: 2}, {Epoch: 1}, {Epoch: 1}, {}}, Root{Epoch: 2}, 1},
		{[4]Root{}, Root{}, 0},
	} {
		d := made(t, 304)
		raw(t, d, 76, x.four[:]...)
		loads(t, d, x.want)
		copies(t, d, x.copies)
	}
}

// P6.3: blocks that have something, but no root, are none.
func TestLoadGarbage(t *testing.T) {
	d := made(t, 300)
	half := laidOf(t, of(9))
	clear(half[:secondAt])
	for _, b := range [][]byte{bytes.Repeat([]byte{1}, api.BlockSize), bytes.Repeat([]byte{255}, api.BlockSize), half} {
		for _, i := range []int{0, 1, 75, 76} {
			d.Raw(i, b)
		}
		loads(t, d, Root{})
		copies(t, d, 0)
	}
	d.Raw(76, laidOf(t, of(3)))
	loads(t, d, of(3))
	copies(t, d, 1)
}

// first are Epochs at which a row of Saves begins.
func first() []int64 { return []int64{1, 2, 255, 1<<32 - 2, 1<<40 - 6} }

// P6.4: behind a fall at each of a Save's calls, with any picks, there is that root, or the one ahead of it; and it is saved anew, or the next one.
func TestFalls(t *testing.T) {
	for _, begin := range first() {
		for rows := range int64(5) {
			for arm := 1; arm <= 3; arm++ {
				for pick := range 4 {
					d := made(t, 300)
					var ahead Root
					for e := begin; e < begin+rows; e++ {
						ahead = of(e)
						save(t, d, ahead)
					}
					last := of(begin + rows)
					d.Arm(arm)
					if err := Save(d, last); err != api.ErrCrash || !d.Down() {
						t.Fatalf("Save, armed for %d: %v", arm, err)
					}
					refuses(t, d, api.ErrCrash)
					d.Crash(pick%2, -(pick / 2)) // -1 is odd, too
					want, n := ahead, 0
					if arm >= 2 {
						n = pick % 2
					}
					if arm == 3 {
						n += pick / 2
					}
					if n > 0 {
						want = last
					} else if rows > 0 {
						n = 2
					}
					loads(t, d, want)
					copies(t, d, n)
					next := of(begin + rows + int64(pick%2))
					save(t, d, next)
					loads(t, d, next)
					copies(t, d, 2)
				}
			}
		}
	}
}

// P6.4: with the last Save done well, whatever unpaired faults its blocks and the others have, Load tells it.
func TestUnpaired(t *testing.T) {
	for _, begin := range first() {
		sound := made(t, 300)
		for e := begin; e < begin+3; e++ {
			save(t, sound, of(e))
			for here := range 5 {
				for there := range 5 {
					for kind := range 20 {
						d := sound.Clone()
						sick := [2]int{here, there}
						for i, s := range sick {
							if s > 0 {
								harm(t, d, 4*kind+s%2+1, i+s/3*75)
							}
						}
						loads(t, d, of(e))
						n := 2
						if sick[e%2] > 0 {
							n = 1
						}
						copies(t, d, n)
					}
				}
			}
		}
	}
}

// P6.4: faults that were there ahead of the last Save do it no harm: of the elder root, of the one ahead, of what is not there yet; a fall in it with such faults leaves either of the two.
func TestFaultsAhead(t *testing.T) {
	for rows := range int64(4) {
		for bad := range 4 * 4 {
			for kind := 1; kind < 8; kind++ {
				d := made(t, 300)
				var ahead Root
				for e := int64(1); e <= rows; e++ {
					ahead = of(e)
					save(t, d, ahead)
				}
				if bad%4 < 2 {
					harm(t, d, kind, bad%4*75)
				}
				if bad/4 < 2 {
					harm(t, d, kind+1, 1+bad/4*75)
				}
				loads(t, d, ahead)
				for arm := 1; arm <= 3; arm++ {
					for pick := range 4 {
						c := d.Clone()
						c.Arm(arm)
						if err := Save(c, of(rows+1)); err != api.ErrCrash {
							t.Fatal(err)
						}
						c.Crash(pick%2, pick/2)
						if r, is, err := Load(c); err != nil || is != (r.Epoch > 0) || !same(r, ahead) && !same(r, of(rows+1)) {
							t.Errorf("behind a fall: %v %v %v", r, is, err)
						}
					}
				}
				save(t, d, of(rows+1))
				loads(t, d, of(rows+1))
				copies(t, d, 2)
			}
		}
	}
}

// P6.4: with both blocks of the last root faulted, there still is the one ahead of it, and no other one.
func TestPaired(t *testing.T) {
	for kind := 1; kind < 80; kind++ {
		d := made(t, 300)
		save(t, d, of(1))
		harm(t, d, kind, 1)
		harm(t, d, kind%3+1, 76)
		loads(t, d, Root{})
		copies(t, d, 0)
		save(t, d, of(2))
		save(t, d, of(3))
		harm(t, d, kind, 1)
		harm(t, d, kind, 76)
		loads(t, d, of(2))
		copies(t, d, 2)
	}
}
