package page

import (
	"math"
	"slices"
	"testing"

	"breviary/api"
	"breviary/dev"
	"breviary/root"
)

// heals holds what a Heal answers.
func heals(t *testing.T, s *Store, i, want int, err error) {
	t.Helper()
	if n, e := s.Heal(i); n != want || e != err {
		t.Errorf("Heal(%d): %d %v, not %d %v", i, n, e, want, err)
	}
}

// P7.3: a Commit is not ErrFull where twice its pages, and 40, are not more than Half: near each other or far, all of them new, again and again.
func TestEnough(t *testing.T) {
	for _, x := range sizes() {
		n := (x[1] - 40) / 2
		for _, step := range []int{1, 37, 85} {
			d, s := fresh(t, x[0])
			want := pages{}
			for turn := range 6 {
				drop(t, s, s.Pages()...)
				want = pages{}
				for k := range n {
					p := (k*step + turn*n) % api.MaxPages
					want[p] = string(rune('a'+turn)) + string(rune('a'+k%26))
				}
				if len(want) != n {
					t.Fatal(len(want), "pages, not", n)
				}
				put(t, s, want)
			}
			has(t, opened(t, d), want)
		}
	}
}

// P7.3: a Commit is not ErrFull either where far more was there ahead of it.
func TestEnoughBehindMore(t *testing.T) {
	for _, x := range sizes() {
		n := fullest(t, x[0])
		d, s := fresh(t, x[0])
		for p := range n {
			write(t, s, pages{p: "x"})
		}
		commit(t, s)
		drop(t, s, s.Pages()...)
		want := pages{}
		for k := range (x[1] - 40) / 2 {
			want[255-k] = "y"
		}
		put(t, s, want)
		has(t, opened(t, d), want)
	}
}

// P7.3: Used are blocks below Half, rising, the roots' two first, each page's; what is changed and not committed doesn't count.
func TestUsed(t *testing.T) {
	d, s := fresh(t, 400)
	for turn := range 8 {
		n := 1 + turn*5%36
		drop(t, s, s.Pages()...)
		put(t, s, of(n, turn))
		used := s.Used()
		if !slices.IsSorted(used) || len(slices.Compact(slices.Clone(used))) != len(used) || used[0] != 0 || used[1] != 1 || used[len(used)-1] >= 100 {
			t.Fatal(used)
		}
		if len(used) <= n+2 || len(used) > n+2+7 {
			t.Errorf("%d pages, %d in use", n, len(used))
		}
		write(t, s, of(40, turn+1))
		drop(t, s, 0)
		if !slices.Equal(s.Used(), used) || !slices.Equal(opened(t, d).Used(), used) {
			t.Error(s.Used(), used)
		}
		s.Abort()
		// only what is in use is needed
		c := d.Clone()
		for i := range 400 {
			if !slices.Contains(used, i%100) || i >= 200 {
				c.Fail(i)
			}
		}
		has(t, opened(t, c), of(n, turn))
	}
}

// P7.3: what is no block of the first half is ErrRange, ahead of the power.
func TestHealRange(t *testing.T) {
	d, s := fresh(t, 400)
	put(t, s, of(5, 0))
	was := d.Clone()
	for _, down := range []bool{false, true} {
		for _, i := range []int{-1, -2, -100, math.MinInt, 100, 101, 102, 199, 200, 399, 400, 6000, 1 << 32, math.MaxInt} {
			heals(t, s, i, 0, api.ErrRange)
		}
		if !down {
			alike(t, d, was)
			fall(t, d)
		}
	}
}

// P7.3: of what is right, and of what is not in use, faulted or not, nothing is written.
func TestHealNothing(t *testing.T) {
	d, s := fresh(t, 400)
	for turn := range 4 {
		put(t, s, of(9, turn))
	}
	used := s.Used()
	for i := range 100 {
		if !slices.Contains(used, i) {
			harm(t, d, i%3, i)
			harm(t, d, i%4, i+100)
		}
	}
	d.Arm(1)
	was := d.Clone()
	for i := range 100 {
		heals(t, s, i, 0, nil)
	}
	alike(t, d, was)
	fall(t, d)
	for i := range 100 {
		if slices.Contains(used, i) {
			heals(t, s, i, 0, api.ErrCrash)
		} else {
			heals(t, s, i, 0, nil)
		}
	}
}

// healed holds that a Heal made all as it was: by one Write, which lasts from the next flush on.
func healed(t *testing.T, sound *dev.Device, s *Store, c *dev.Device, i, at int) {
	t.Helper()
	calls := c.Calls()
	heals(t, s, i, 1, nil)
	if c.Calls() != calls+1 || c.Pending() != 1 || !c.Faulted(at) {
		t.Errorf("block %d: %d calls, %d pending", at, c.Calls()-calls, c.Pending())
	}
	heals(t, s, i, 0, nil)
	e := c.Clone()
	e.Crash()
	if !e.Faulted(at) {
		t.Error("not pending:", at)
	}
	if err := c.Flush(); err != nil {
		t.Fatal(err)
	}
	for k := range sound.Blocks() {
		same(t, c, sound, k)
		if c.Faulted(k) {
			t.Error("still faulted:", k)
		}
	}
	heals(t, s, i, 0, nil)
}

// P7.3: of each block in use, with whichever one of both is faulted, in whichever way, that one is made right; but of the elder root's.
func TestHealEach(t *testing.T) {
	for _, epochs := range []int{1, 2, 5} {
		sound, s := fresh(t, 300)
		for e := range epochs {
			put(t, s, of(9, e))
		}
		for _, i := range s.Used() {
			if i == 1-epochs%2 {
				continue
			}
			for which := range 2 {
				for kind := 1; kind < 24; kind++ {
					c := sound.Clone()
					x := opened(t, c)
					harm(t, c, kind, i+which*75)
					healed(t, sound, x, c, i, i+which*75)
					has(t, opened(t, c), of(9, epochs-1))
				}
			}
		}
	}
}

// P7.3: where neither one of both is right, it is ErrIO, and nothing is written.
func TestHealPaired(t *testing.T) {
	for _, epochs := range []int{1, 2, 5} {
		d, s := fresh(t, 300)
		for e := range epochs {
			put(t, s, of(9, e))
		}
		used := s.Used()
		for kind := 1; kind < 24; kind++ {
			c := d.Clone()
			x := opened(t, c)
			for _, i := range used {
				harm(t, c, kind, i)
				harm(t, c, 1+kind%5, i+75)
			}
			was := c.Clone()
			for _, i := range used {
				heals(t, x, i, 0, api.ErrIO)
			}
			alike(t, c, was)
		}
	}
}

// P7.3: of the elder root's two, the one that can't be read, or is neither a root nor all 0s, gets the root; it does no harm to the next Commits, nor to what a fall in them leaves.
func TestHealElder(t *testing.T) {
	for epochs := 1; epochs <= 5; epochs++ {
		for which := range 2 {
			for kind := 1; kind < 24; kind++ {
				d, s := fresh(t, 300)
				for e := range epochs {
					put(t, s, of(9, e))
				}
				i := 1 - epochs%2
				at, other := i+which*75, i+75-which*75
				was, err := d.Read(other)
				if err != nil {
					t.Fatal(err)
				}
				harm(t, d, kind, at)
				heals(t, s, i, 1, nil)
				heals(t, s, i, 0, nil)
				if d.Flush() != nil || d.Faulted(at) {
					t.Fatal("still faulted")
				}
				heals(t, s, i, 0, nil)
				b, _ := d.Read(at)
				if r, ok := root.Read(b); !ok || r.Epoch != int64(epochs) || !slices.Equal(r.Refs, s.now.root().Refs) {
					t.Error(r, ok)
				}
				if b, err := d.Read(other); err != nil || string(b) != string(was) {
					t.Error("the other one is written")
				}
				has(t, opened(t, d), of(9, epochs-1))
				rooted(t, d, 2)
				behindElder(t, d, epochs)
			}
		}
	}
}

// behindElder holds the Commit behind a Heal of the elder root.
func behindElder(t *testing.T, d *dev.Device, epochs int) {
	t.Helper()
	d = d.Clone()
	s := opened(t, d)
	for arm := 1; arm < 99; arm++ {
		d.Arm(arm)
		write(t, s, of(9, epochs))
		if s.Commit() == nil {
			break
		}
		d.Crash(arm, arm>>1, 1)
		s = opened(t, d)
		if e := s.Epoch(); e < int64(epochs) || e > int64(epochs)+1 {
			t.Fatal(e)
		}
		has(t, s, of(9, int(s.Epoch())-1))
		if s.Epoch() > int64(epochs) {
			return
		}
	}
	has(t, opened(t, d), of(9, epochs))
}

// P7.3: what else a block of the roots has: of the root's two the one that has another root, or none, gets the root; in the elder root's place any root, and all 0s, may stand.
func TestHealRoots(t *testing.T) {
	lay := func(r root.Root) []byte {
		b, err := root.Bytes(r)
		if err != nil {
			t.Fatal(err)
		}
		return b
	}
	empty, garbage := make([]byte, api.BlockSize), make([]byte, api.BlockSize)
	garbage[255] = 1
	for which := range 2 {
		for _, x := range []struct {
			b     []byte
			elder int // how many are written, in the elder root's place
		}{
			{lay(root.Root{Epoch: 1}), 0}, {lay(root.Root{Epoch: 2}), 0}, {lay(root.Root{Epoch: 3}), 0},
			{lay(root.Root{Epoch: 3, Refs: make([]api.Ref, 16)}), 0}, {empty, 0}, {garbage, 1},
		} {
			sound, s := fresh(t, 300)
			for turn := range 3 {
				put(t, s, of(4, turn))
			}
			d := sound.Clone()
			s = opened(t, d)
			d.Raw(1+which*75, x.b)
			heals(t, s, 1, 1, nil)
			for i := range 300 {
				same(t, d, sound, i)
			}
			heals(t, s, 1, 0, nil)
			d.Raw(0+which*75, x.b)
			heals(t, s, 0, x.elder, nil)
			heals(t, s, 0, 0, nil)
			d.Raw(0, garbage)
			d.Raw(75, garbage)
			heals(t, s, 0, 0, api.ErrIO)
			d.Raw(1, empty)
			d.Raw(76, x.b)
			heals(t, s, 1, 0, api.ErrIO)
		}
	}
}

// P7.3: where nothing was committed yet, the roots' blocks are right as on a new device.
func TestHealNew(t *testing.T) {
	for i := range 2 {
		for which := range 2 {
			for kind := 1; kind < 24; kind++ {
				sound, s := fresh(t, 300)
				for k := range 75 {
					heals(t, s, k, 0, nil)
				}
				c := sound.Clone()
				s = opened(t, c)
				harm(t, c, kind, i+which*75)
				healed(t, sound, s, c, i, i+which*75)
				harm(t, c, kind, i)
				harm(t, c, 1, i+75)
				was := c.Clone()
				heals(t, s, i, 0, api.ErrIO)
				alike(t, c, was)
			}
		}
	}
}

// P7.3: where the power is found gone in healing, it is ErrCrash, and nothing came of it.
func TestHealCrash(t *testing.T) {
	d, s := fresh(t, 300)
	put(t, s, of(5, 0))
	put(t, s, of(5, 1))
	for _, i := range s.Used() {
		for which := range 2 {
			c := d.Clone()
			x := opened(t, c)
			harm(t, c, 1, i+which*75)
			was := c.Clone()
			c.Arm(1)
			heals(t, x, i, 0, api.ErrCrash)
			heals(t, x, i, 0, api.ErrCrash)
			c.Crash(1, 1)
			alike(t, c, was)
		}
	}
}

// P7.3: a round over all blocks in use mends all unpaired faults in them.
func TestHealRound(t *testing.T) {
	for turn := range 16 {
		d, s := fresh(t, 801)
		for k := range 4 {
			put(t, s, of(50+10*k, k+turn))
		}
		for k := range 200 {
			harm(t, d, 1+k*turn%29, k+(k>>(turn%4)+turn/4)%2*200)
		}
		n := 0
		used := s.Used()
		for _, i := range used {
			heals(t, s, i, 1, nil)
			n++
		}
		if err := d.Flush(); err != nil {
			t.Fatal(err)
		}
		for _, i := range used {
			if d.Faulted(i) || d.Faulted(i+200) {
				t.Error("still faulted:", i)
			}
		}
		has(t, opened(t, d), of(80, 3+turn))
		rooted(t, d, 2)
	}
}
