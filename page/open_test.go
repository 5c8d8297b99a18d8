package page

import (
	"testing"

	"breviary/api"
	"breviary/dev"
	"breviary/root"
)

// refuses holds what Open answers beside an error: nothing.
func refuses(t *testing.T, d *dev.Device, want error) {
	t.Helper()
	if s, err := Open(d); s != nil || err != want {
		t.Errorf("Open: %v %v, not %v", s, err, want)
	}
}

// rooted holds how many copies the root has.
func rooted(t *testing.T, d *dev.Device, want int) {
	t.Helper()
	if n, err := root.Copies(d); n != want || err != nil {
		t.Errorf("Copies: %d %v, not %d", n, err, want)
	}
}

// P7.2: what geo.Of refuses, also while it is down.
func TestOpenSmall(t *testing.T) {
	for _, blocks := range []int{1, 2, 75, 299} {
		d := made(t, blocks)
		was := d.Clone()
		refuses(t, d, api.ErrRange)
		alike(t, d, was)
		fall(t, d)
		refuses(t, d, api.ErrRange)
	}
}

// P7.2: of a sound store Open writes nothing.
func TestOpenSound(t *testing.T) {
	for _, x := range sizes() {
		d, s := fresh(t, x[0])
		for turn := range 5 {
			put(t, s, of(15, turn))
			d.Arm(1)
			was := d.Clone()
			has(t, opened(t, d), of(15, turn))
			alike(t, d, was)
			d.Arm(0)
		}
	}
}

// P7.2: a root without both copies is written anew, and flushed, whichever is bad, and in whichever way; no other block is.
func TestOpenRootAnew(t *testing.T) {
	for epochs := 1; epochs <= 4; epochs++ {
		for which := range 2 {
			for kind := 1; kind < 30; kind++ {
				d, s := fresh(t, 300)
				for e := range epochs {
					put(t, s, of(6, e))
				}
				at := epochs%2 + which*75
				sound := d.Clone()
				harm(t, d, kind, at)
				rooted(t, d, 1)
				has(t, opened(t, d), of(6, epochs-1))
				rooted(t, d, 2)
				if d.Pending() != 0 || d.Faulted(at) {
					t.Errorf("%d pending, faulted: %v", d.Pending(), d.Faulted(at))
				}
				for i := range 300 {
					same(t, d, sound, i)
				}
				calls := d.Calls()
				opened(t, d)
				if d.Calls() != calls {
					t.Error("a second Open wrote")
				}
			}
		}
	}
}

// same holds what two devices have in a block.
func same(t *testing.T, got, want *dev.Device, i int) {
	t.Helper()
	a, e := got.Read(i)
	b, f := want.Read(i)
	if string(a) != string(b) || e != f {
		t.Errorf("block %d: %v %v, not %v %v", i, a, e, b, f)
	}
}

// P7.2: a root that no block of its own has, but one of the elder root's does, gets both of its own.
func TestOpenRootElsewhere(t *testing.T) {
	d, s := fresh(t, 300)
	put(t, s, of(5, 0))
	put(t, s, of(5, 1))
	harm(t, d, 1, 76)
	if n, err := s.Heal(1); n != 1 || err != nil {
		t.Fatal(n, err)
	}
	if d.Flush() != nil {
		t.Fatal("Flush")
	}
	harm(t, d, 2, 0)
	harm(t, d, 1, 75)
	rooted(t, d, 0)
	s = opened(t, d)
	has(t, s, of(5, 1))
	tells(t, s, 0, 2)
	rooted(t, d, 2)
}

// P7.2: what says where the pages are is read from the copy that is right, and mended by the way, pending; only that is written.
func TestOpenMends(t *testing.T) {
	d, s := fresh(t, 2048)
	put(t, s, of(200, 0))
	for _, ref := range s.now.indexes {
		for kind := 1; kind < 20; kind++ {
			here, there := d.Clone(), d.Clone()
			harm(t, here, kind, ref.Addr)
			harm(t, there, kind, ref.Addr+512)
			has(t, opened(t, here), of(200, 0))
			same(t, here, d, ref.Addr)
			if here.Calls() != d.Calls()+1 || here.Pending() != 1 || !here.Faulted(ref.Addr) {
				t.Error(here.Calls(), here.Pending())
			}
			was := there.Clone()
			opened(t, there)
			alike(t, there, was)
		}
	}
}

// P7.2: where neither copy of what says where the pages are can be read, it is ErrIO, and nothing is written.
func TestOpenUnreadable(t *testing.T) {
	d, s := fresh(t, 2048)
	put(t, s, of(200, 0))
	for _, ref := range s.now.indexes {
		for kind := 1; kind < 20; kind++ {
			c := d.Clone()
			harm(t, c, kind, ref.Addr)
			harm(t, c, 1+kind%3, ref.Addr+512)
			harm(t, c, kind, 1)
			was := c.Clone()
			refuses(t, c, api.ErrIO)
			alike(t, c, was)
		}
	}
	for _, ref := range s.now.pages {
		if ref.Addr > 0 {
			harm(t, d, 1, ref.Addr)
			harm(t, d, 2, ref.Addr+512)
		}
	}
	if s := opened(t, d); len(s.Pages()) != 200 {
		t.Error(s.Pages())
	}
}

// P7.2: without a root it is a new one, where one of the first root's two blocks is all 0s; else what says where the pages are can't be read.
func TestOpenNoRoot(t *testing.T) {
	for bad := range 3 * 3 * 3 * 3 {
		kinds := [4]int{bad % 3, bad / 3 % 3, bad / 9 % 3, bad / 27}
		d := made(t, 300)
		for k, at := range [4]int{0, 75, 1, 76} {
			harm(t, d, kinds[k], at)
		}
		was := d.Clone()
		if kinds[2] > 0 && kinds[3] > 0 {
			refuses(t, d, api.ErrIO)
			alike(t, d, was)
			continue
		}
		s := opened(t, d)
		alike(t, d, was)
		has(t, s, nil)
		tells(t, s, 0, 0)
		put(t, s, of(3, 0))
		has(t, opened(t, d), of(3, 0))
	}
}

// P7.2: with all that said where the pages are gone, they aren't told as if there were none.
func TestOpenRootsGone(t *testing.T) {
	for epochs := 1; epochs <= 4; epochs++ {
		for kind := 1; kind < 20; kind++ {
			d, s := fresh(t, 300)
			for e := range epochs {
				put(t, s, of(6, e))
			}
			for k, at := range []int{0, 75, 1, 76} {
				harm(t, d, 1+(kind+k)%19, at)
			}
			was := d.Clone()
			refuses(t, d, api.ErrIO)
			alike(t, d, was)
		}
	}
}

// P7.2: whatever else a device has where roots are, and nothing that is one: Open ends.
func TestOpenGarbage(t *testing.T) {
	for c := range 256 {
		d := made(t, 300)
		b := make([]byte, api.BlockSize)
		for i := range b {
			b[i] = byte(c)
		}
		for i := range 300 {
			d.Raw(i, b)
		}
		if c == 0 {
			has(t, opened(t, d), nil)
		} else {
			refuses(t, d, api.ErrIO)
		}
	}
}

// P7.2: a root, or what it points to, that no Commit leaves can't be read, whatever its sums say.
func TestOpenForged(t *testing.T) {
	d, s := fresh(t, 300)
	put(t, s, of(60-42, 0))
	sound, _, err := root.Load(d)
	if err != nil {
		t.Fatal(err)
	}
	forged := func(change func(s *Store, r *root.Root)) *dev.Device {
		c := d.Clone()
		x, r := opened(t, c), root.Root{Epoch: 2, Refs: append([]api.Ref{}, sound.Refs...)}
		change(x, &r)
		if err := root.Save(c, r); err != nil {
			t.Fatal(err)
		}
		return c
	}
	// index k says that page p is at ref
	index := func(k, p int, ref api.Ref) func(s *Store, r *root.Root) {
		return func(s *Store, r *root.Root) {
			s.now.pages[p] = ref
			r.Refs[k], err = s.pairs.Write(70, s.now.indexBlock(k))
			if err != nil {
				t.Fatal(err)
			}
		}
	}
	for n, change := range []func(s *Store, r *root.Root){
		func(s *Store, r *root.Root) { r.Refs = nil },
		func(s *Store, r *root.Root) { r.Refs = r.Refs[:6] },
		func(s *Store, r *root.Root) { r.Refs = append(r.Refs, api.Ref{}) },
		func(s *Store, r *root.Root) { r.Refs = make([]api.Ref, 16) },
		func(s *Store, r *root.Root) { r.Refs[0].Addr = 75 },
		func(s *Store, r *root.Root) { r.Refs[0].Addr = 76 },
		func(s *Store, r *root.Root) { r.Refs[0].Addr = 299 },
		func(s *Store, r *root.Root) { r.Refs[0].Addr = api.MaxBlocks },
		func(s *Store, r *root.Root) { r.Refs[0].Addr = 1 },
		func(s *Store, r *root.Root) { r.Refs[0].Sum++ },
		func(s *Store, r *root.Root) { r.Refs[1] = r.Refs[0] },
		index(0, 5, api.Ref{Addr: 1, Sum: 9}),
		index(0, 5, api.Ref{Addr: 75, Sum: 9}),
		index(0, 5, api.Ref{Addr: 65535, Sum: 9}),
		index(0, 5, api.Ref{Addr: 70, Sum: 9}),
		index(0, 5, s.now.pages[0]),
		index(0, 5, api.Ref{Addr: s.now.pages[0].Addr, Sum: 9}),
		index(0, 5, s.now.indexes[1]),
		index(6, 255, s.now.pages[0]),
	} {
		c := forged(change)
		was := c.Clone()
		refuses(t, c, api.ErrIO)
		alike(t, c, was)
		if t.Failed() {
			t.Fatal("forged:", n)
		}
	}
	c := forged(func(s *Store, r *root.Root) { r.Refs = make([]api.Ref, 7) })
	s = opened(t, c)
	has(t, s, nil)
	tells(t, s, 0, 2)
	heals(t, s, 0, 0, nil)
	c = forged(index(0, 5, api.Ref{Addr: 74, Sum: 9}))
	if _, err := opened(t, c).Read(5); err != api.ErrIO {
		t.Error(err)
	}
}

// rows are Commits one behind the other, each the pages as they are behind it: few are changed, many, dropped, all gone.
func rows() []pages {
	return []pages{
		{},
		{3: "abc"},
		{3: "new", 200: "q"},
		{3: "new"},
		{3: "new", 41: "a", 42: "b", 255: "last"},
		{42: "b"},
		{},
		{0: "zero", 9: "nine"},
	}
}

// turn has s be as all says, changed but not committed.
func turn(t *testing.T, s *Store, all pages) {
	t.Helper()
	for _, p := range s.Pages() {
		if all[p] == "" {
			drop(t, s, p)
		}
	}
	for p, b := range all {
		if got, err := s.Read(p); err != nil || string(got) != b {
			write(t, s, pages{p: b})
		}
	}
}

// bits are n's lowest bits as picks.
func bits(n, most int) []int {
	out := []int{}
	for k := range most {
		out = append(out, n>>k&1)
	}
	return out
}

// eachFall tries each of do's falls, from d on, with each of the picks that matter; then, with no fall.
func eachFall(t *testing.T, d *dev.Device, do func(c *dev.Device) error, then func(c *dev.Device, fell bool)) {
	t.Helper()
	for arm := 1; ; arm++ {
		c := d.Clone()
		c.Arm(arm)
		if err := do(c); err == nil {
			c.Arm(0)
			then(c, false)
			return
		} else if err != api.ErrCrash {
			t.Fatal("behind a fall:", err)
		}
		pending := c.Pending()
		for n := range 1 << min(pending, 8) {
			x := c.Clone()
			x.Crash(bits(n, pending)...)
			then(x, true)
		}
	}
}

// P7.2: behind a fall at each of a Commit's calls, with any picks, and one in each of the calls of the next Open, all is as ahead, or as behind; what Open told once, it tells on; the next Commit does well.
func TestFalls(t *testing.T) {
	all := rows()
	for k := 1; k < len(all); k++ {
		d, s := fresh(t, 300)
		for _, x := range all[1:k] {
			turn(t, s, x)
			commit(t, s)
		}
		ahead, behind := all[k-1], all[k]
		do := func(c *dev.Device) error {
			s := opened(t, c)
			turn(t, s, behind)
			return s.Commit()
		}
		reopen := func(c *dev.Device) error {
			_, err := Open(c)
			return err
		}
		seen := [2]int{}
		eachFall(t, d, do, func(c *dev.Device, fell bool) {
			if !fell {
				has(t, opened(t, c), behind)
				return
			}
			eachFall(t, c, reopen, func(c *dev.Device, fell bool) {
				s := opened(t, c)
				was := int(s.Epoch()) - (k - 1)
				if was < 0 || was > 1 {
					t.Fatal("Epoch", s.Epoch(), "of", k)
				}
				seen[was]++
				has(t, s, []pages{ahead, behind}[was])
				if k > 1 || was > 0 {
					rooted(t, c, 2)
				}
				if c.Pending() != 0 {
					t.Fatal(c.Pending(), "pending")
				}
				c.Crash()
				next := of(7, k)
				s = opened(t, c)
				has(t, s, []pages{ahead, behind}[was])
				turn(t, s, next)
				commit(t, s)
				has(t, opened(t, c), next)
			})
			if t.Failed() {
				t.FailNow()
			}
		})
		if seen[0] == 0 || seen[1] == 0 {
			t.Error("no such fall:", seen)
		}
	}
}

// P7.2: what an Open told behind a fall stands, whichever one of its root's two blocks is faulted then.
func TestFallThenFault(t *testing.T) {
	for n := 1; n < 4; n++ {
		d, s := fresh(t, 300)
		put(t, s, of(4, 0))
		put(t, s, of(4, 1))
		write(t, s, of(4, 2))
		calls := d.Calls()
		c := d.Clone()
		commit(t, s)
		last := d.Calls() - calls // the Flush that ends it
		x := opened(t, c)
		write(t, x, of(4, 2))
		c.Arm(last)
		commits(t, x, api.ErrCrash)
		c.Crash(bits(n, 2)...)
		has(t, opened(t, c), of(4, 2))
		for which := range 2 {
			for kind := 1; kind < 9; kind++ {
				e := c.Clone()
				harm(t, e, kind, 1+which*75)
				has(t, opened(t, e), of(4, 2))
			}
		}
	}
}

// P7.2: with unpaired faults ahead of a fall, too, all is as ahead, or as behind.
func TestFaultsThenFall(t *testing.T) {
	for _, kind := range []int{1, 2, 7} {
		for side := range 4 {
			d, s := fresh(t, 300)
			put(t, s, of(3, 0))
			put(t, s, of(3, 1))
			for k := range 30 {
				harm(t, d, kind, k+(k>>side%2+side/2)%2*75)
			}
			eachFall(t, d, func(c *dev.Device) error {
				s, err := Open(c)
				if err != nil {
					return err
				}
				turn(t, s, pages{37: "x"})
				return s.Commit()
			}, func(c *dev.Device, fell bool) {
				s := opened(t, c)
				if s.Epoch() == 3 {
					has(t, s, pages{37: "x"})
				} else {
					has(t, s, of(3, 1))
				}
			})
		}
	}
}
