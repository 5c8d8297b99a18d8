package keep

import (
	"bytes"
	"math/rand"
	"slices"
	"strconv"
	"strings"
	"testing"

	"breviary/api"
	"breviary/dev"
	"breviary/page"
	"breviary/wire"
)

// refuses holds what Open answers beside an error: nothing.
func refuses(t *testing.T, s *page.Store, want error) {
	t.Helper()
	if k, err := Open(s); k != nil || err != want {
		t.Errorf("Open: %v %v, not %v", k, err, want)
	}
}

// harm does one of the kinds of fault: unreadable; turned, at some place.
func harm(t *testing.T, d *dev.Device, kind, i int) {
	t.Helper()
	ok := false
	if kind == 0 {
		ok = d.Fail(i)
	} else {
		ok = d.Spoil(i, 17*kind%253, 1<<(kind%32))
	}
	if !ok {
		t.Fatal("no fault", kind, i)
	}
}

// P8.2: Open tells what was there at the store's last Commit; what is put and deleted in one keep, or was changed in the store and not committed, is not there.
func TestOpen(t *testing.T) {
	d, k := fresh(t, 300)
	s := k.store
	for round := range 6 {
		want := numbered(20+10*round, round)
		turn(t, k, want)
		put(t, k, keys{"key0": "new", "more": "x"})
		del(t, k, "key37")
		was := d.Clone()
		has(t, kept(t, s), want)
		has(t, opened(t, d), want)
		for _, p := range s.Pages() {
			if err := s.Drop(p); err != nil {
				t.Fatal(err)
			}
		}
		has(t, kept(t, s), want)
		if s.Write(0, []byte("no keys")) != nil || s.Write(200, laid([]record{{"a", "b"}})) != nil {
			t.Fatal("Write")
		}
		k = kept(t, s)
		has(t, k, want)
		well(t, k)
		alike(t, d, was)
	}
}

// P8.2: whichever one of a block's two is faulted, and in whichever way, Open tells all; so it does with one of each block's two faulted, at once.
func TestOpenFaulted(t *testing.T) {
	d, k := fresh(t, 300)
	want := numbered(60, 0)
	turn(t, k, numbered(60, 1))
	turn(t, k, want)
	used := k.store.Used()
	for kind := range 12 {
		all := d.Clone()
		for _, i := range used {
			for which := range 2 {
				c := d.Clone()
				harm(t, c, kind, i+which*75)
				k := opened(t, c)
				has(t, k, want)
				turn(t, k, numbered(61, 2))
				has(t, opened(t, c), numbered(61, 2))
			}
			harm(t, all, kind, i+(i+kind)%2*75)
		}
		k := opened(t, all)
		has(t, k, want)
		commits(t, k, nil)
		turn(t, k, numbered(61, 2))
		has(t, opened(t, all), numbered(61, 2))
	}
}

// eachUnreadable does what it is told with each device on which both blocks of one page, each in turn, are faulted.
func eachUnreadable(t *testing.T, d *dev.Device, do func(c *dev.Device, s *page.Store)) {
	t.Helper()
	n := 0
	for _, i := range stored(t, d).Used() {
		for kind := range 4 {
			c := d.Clone()
			harm(t, c, kind, i)
			harm(t, c, (kind+1)%4, i+d.Blocks()/4)
			if s, err := page.Open(c); err == nil && i > 1 { // else it is none of a page's
				do(c, s)
				n++
			}
		}
	}
	if pages := len(stored(t, d).Pages()); n != 4*pages {
		t.Errorf("%d tried, of %d pages", n, pages)
	}
}

// P8.2: a page that can't be read is ErrIO, also if another one, ahead of it or behind it, is no keys' page; nothing is written.
func TestOpenUnreadable(t *testing.T) {
	d, k := fresh(t, 300)
	turn(t, k, numbered(40, 0))
	eachUnreadable(t, d, func(c *dev.Device, s *page.Store) {
		was := c.Clone()
		refuses(t, s, api.ErrIO)
		refuses(t, s, api.ErrIO)
		alike(t, c, was)
	})
	for _, bad := range []int{0, 2} {
		c := made(t, 300)
		s := stored(t, c)
		for p := range 3 {
			if err := s.Write(p, laid([]record{{"key" + strconv.Itoa(p), "x"}})); err != nil {
				t.Fatal(err)
			}
		}
		if s.Write(bad, []byte("no keys")) != nil || s.Commit() != nil {
			t.Fatal("Write")
		}
		refuses(t, s, api.ErrShape)
		eachUnreadable(t, c, func(c *dev.Device, s *page.Store) { refuses(t, s, api.ErrIO) })
	}
}

// P8.1: a keep that is open has its keys, whatever becomes of their pages; what it then commits is there.
func TestPagesLost(t *testing.T) {
	d, k := fresh(t, 300)
	want := numbered(40, 0)
	turn(t, k, want)
	for _, i := range k.store.Used()[2:] {
		harm(t, d, 0, i)
		harm(t, d, 0, i+75)
	}
	has(t, k, want)
	k.Abort()
	has(t, k, want)
	want = numbered(40, 1)
	turn(t, k, want)
	has(t, opened(t, d), want)
}

// P8.2: while the device is down, Open is ErrCrash.
func TestOpenDown(t *testing.T) {
	d, k := fresh(t, 300)
	turn(t, k, numbered(40, 0))
	fall(t, d)
	refuses(t, k.store, api.ErrCrash)
	d.Crash()
	has(t, opened(t, d), numbered(40, 0))
	// in mending, too
	for _, i := range k.store.Used()[2:] {
		harm(t, d, 1, i)
	}
	fell := 0
	for arm := 1; arm < 20; arm++ {
		c := d.Clone()
		s := stored(t, c)
		c.Arm(arm)
		if _, err := Open(s); err == api.ErrCrash {
			fell++
		} else if err != nil {
			t.Error(err)
		}
		c.Crash(1, 0, 1)
		has(t, opened(t, c), numbered(40, 0))
	}
	if fell == 0 {
		t.Error("no such fall")
	}
}

// forged is a store with these pages.
func forged(t *testing.T, pages map[int][]byte) *page.Store {
	t.Helper()
	s := stored(t, made(t, 300))
	for p, b := range pages {
		if err := s.Write(p, b); err != nil {
			t.Fatal(err)
		}
	}
	if err := s.Commit(); err != nil {
		t.Fatal(err)
	}
	return s
}

// of is a page of keys, each with its own text as its value.
func of(all ...string) []byte {
	var out []record
	for _, key := range all {
		out = append(out, record{key, key})
	}
	return laid(out)
}

// P8.2: pages that are no keys' are ErrShape.
func TestOpenShape(t *testing.T) {
	long := func(n int) string { return strings.Repeat("l", n) }
	for n, pages := range []map[int][]byte{
		{0: {0}},
		{0: {0, 0}},
		{5: laid([]record{{"", "value"}})},
		{5: laid([]record{{"a", "b"}, {"", "value"}})},
		{255: laid([]record{{long(api.MaxKey + 1), ""}})},
		{0: laid([]record{{"a", long(api.MaxValue + 1)}})},
		{0: []byte("no keys")},
		{0: bytes.Repeat([]byte{255}, api.PageSize)},
		{0: make([]byte, api.PageSize)},
		{0: of("a", "a")},
		{0: of("b", "a")},
		{0: of("a", "c", "b")},
		{0: of("aa", "a")},
		{0: of("\x80", "\x7f")},
		{0: of("a"), 1: of("a")},
		{1: of("a", "b"), 2: of("b", "c")},
		{2: of("a", "b"), 1: of("b", "c")},
		{0: of("a", "c"), 1: of("b", "d")},
		{0: of("a", "z"), 1: of("b")},
		{9: of("a", "z"), 1: of("b"), 2: of("zz")},
		{0: of("a"), 1: of("b"), 2: of("c", "a")},
		{0: of("a"), 1: {7}},
		{0: {7}, 1: of("a")},
		{0: append(of("a"), 2)},
		{0: append(of("a"), 0)},
		{0: wire.PutText(nil, "key")},
		{0: append(wire.Put(nil, -1), 'a', 0)},
		{0: append(wire.Put(nil, 1<<62), 'a', 0)},
		{0: append(append(of("a"), wire.Put(nil, 3)...), 'b', 'c')},
		{0: {0x82, 0, 'a', 0}},
		{0: {0x80}},
	} {
		s := forged(t, pages)
		refuses(t, s, api.ErrShape)
		refuses(t, s, api.ErrShape)
		if len(s.Pages()) != len(pages) || s.Changed() != 0 || s.Epoch() != 1 {
			t.Errorf("%d: the store is another one", n)
		}
		if t.Failed() {
			t.Fatal("pages:", n)
		}
	}
}

// P8.2: a page that was cut off, or has more behind, is no keys' page, but where a key ends with its value.
func TestOpenCut(t *testing.T) {
	whole := []record{{"a", "1"}, {"bb", ""}, {"c", strings.Repeat("c", 100)}, {strings.Repeat("d", 40), "4"}}
	b := laid(whole)
	for n := 1; n <= len(b); n++ {
		s := forged(t, map[int][]byte{3: b[:n]})
		ends := 0
		for i := range whole {
			if len(laid(whole[:i+1])) == n {
				ends = i + 1
			}
		}
		if ends == 0 {
			refuses(t, s, api.ErrShape)
		} else if k := kept(t, s); !slices.Equal(k.now, whole[:ends]) {
			t.Error(n, k.now)
		}
	}
}

// P8.2: pages of one byte, as long as you like, are no keys', but for the few that happen to be.
func TestOpenOneByte(t *testing.T) {
	for c := range 256 {
		for _, n := range []int{1, 2, 3, c/2 + 1, c, c + 1, c + 2, c + 3, 2*c + 4, 100, 200, 247, 248} {
			if n < 1 || n > api.PageSize {
				continue
			}
			s := forged(t, map[int][]byte{c: bytes.Repeat([]byte{byte(c)}, n)})
			if c%2 == 0 && c > 0 && c <= 2*api.MaxKey && n == c+2 {
				has(t, kept(t, s), keys{strings.Repeat(string(rune(c)), c/2): strings.Repeat(string(rune(c)), c/2)})
			} else {
				refuses(t, s, api.ErrShape)
			}
		}
	}
}

// P8.2, P0.1: whatever pages a store has, Open ends: they are no keys', or some that hold all that is told of keys.
func TestOpenGarbage(t *testing.T) {
	x := rand.New(rand.NewSource(8))
	for n := range 3000 {
		pages := map[int][]byte{}
		for range 1 + n%3 {
			b := make([]byte, 1+x.Intn(1+n%api.PageSize))
			for i := range b {
				b[i] = byte(x.Intn(256) >> x.Intn(8))
			}
			if n%2 == 0 {
				b = of(string(b[:min(len(b), 40)]), string(b[len(b)/2:][:min((len(b)+1)/2, 40)]))
				b[x.Intn(len(b))] ^= byte(x.Intn(4) << x.Intn(7))
			}
			pages[x.Intn(api.MaxPages)] = b
		}
		s := forged(t, pages)
		k, err := Open(s)
		if err == nil && k != nil {
			sane(t, k)
		} else if k != nil || err != api.ErrShape {
			t.Fatal(pages, err)
		}
	}
}

// sane holds that a keep's keys are such as may be put, and can be gone on with.
func sane(t *testing.T, k *Keep) {
	t.Helper()
	want := keys{}
	last := ""
	for _, x := range k.Scan(nil, nil) {
		if string(x.Key) <= last || len(x.Key) > api.MaxKey || len(x.Value) > api.MaxValue {
			t.Fatalf("behind %q: %q %q", last, x.Key, x.Value)
		}
		last = string(x.Key)
		want[last] = string(x.Value)
	}
	epoch := k.store.Epoch()
	commits(t, k, nil)
	if k.store.Epoch() != epoch {
		t.Fatal("a Commit of nothing wrote")
	}
	want["new"] = "x"
	put(t, k, keys{"new": "x"})
	commits(t, k, nil)
	has(t, kept(t, k.store), want)
	well(t, k)
}

// How keys lie: in which order pages stand their keys tell, not their numbers; and where one is gone, the other ones are as they were.
func TestOpenWithout(t *testing.T) {
	k := kept(t, forged(t, map[int][]byte{7: of("a", "b"), 3: of("c"), 250: of("bb"), 0: of("z")}))
	has(t, k, keys{"a": "a", "b": "b", "bb": "bb", "c": "c", "z": "z"})
	sane(t, k)

	d, k := fresh(t, 300)
	want := numbered(60, 0)
	turn(t, k, want)
	for _, l := range k.leaves {
		c := d.Clone()
		s := stored(t, c)
		if s.Drop(l.page) != nil || s.Commit() != nil {
			t.Fatal("Drop")
		}
		rest := numbered(60, 0)
		for _, r := range l.records {
			delete(rest, r.key)
		}
		has(t, opened(t, c), rest)
		sane(t, opened(t, c))
	}
}

// bits are n's lowest bits as picks.
func bits(n, most int) []int {
	out := []int{}
	for k := range most {
		out = append(out, n>>(k%16)&1)
	}
	return out
}

// eachFall tries each of do's falls, from d on, each with some picks; then, with no fall.
func eachFall(t *testing.T, d *dev.Device, do func(c *dev.Device) error, then func(c *dev.Device, fell bool)) {
	t.Helper()
	for arm := 1; ; arm++ {
		c := d.Clone()
		c.Arm(arm)
		if err := do(c); err == nil {
			c.Arm(0)
			then(c, false)
			return
		} else if err != api.ErrCrash {
			t.Fatal("behind a fall:", err)
		}
		for _, n := range []int{0, 1, 2, 3, 0x5555, 0xaaaa, 0x3333, 0x7fff, 0xfffe, 0xffff} {
			x := c.Clone()
			x.Crash(bits(n, x.Pending())...)
			then(x, true)
		}
	}
}

// P8.1, P8.2: behind a fall at each of a Commit's calls, with some picks, and one in each of the calls of the next Open, all is as ahead of the Commit, or as behind it; and goes on.
func TestFalls(t *testing.T) {
	rows := []keys{{}, {"a": "1"}, numbered(30, 0), numbered(30, 1), numbered(60, 2), {"key0": "0", "key37": "37"}, {}, {"z": "9"}}
	for n, behind := range rows[1:] {
		ahead := rows[n]
		d, k := fresh(t, 300)
		for _, x := range rows[:n+1] {
			turn(t, k, x)
		}
		seen := map[bool]int{}
		eachFall(t, d, func(c *dev.Device) error {
			k := opened(t, c)
			change(t, k, behind)
			return k.Commit()
		}, func(c *dev.Device, fell bool) {
			reopen := func(c *dev.Device) error {
				s, err := page.Open(c)
				if err != nil {
					return err
				}
				_, err = Open(s)
				return err
			}
			eachFall(t, c, reopen, func(c *dev.Device, again bool) {
				k := opened(t, c)
				was := scan(k, "", "") == within(ahead, "", "")
				seen[was]++
				if !was || !fell {
					has(t, k, behind)
				}
				if !again {
					turn(t, k, numbered(20, 5))
					has(t, opened(t, c), numbered(20, 5))
				}
			})
			if t.Failed() {
				t.FailNow()
			}
		})
		if seen[false] == 0 || seen[true] == 0 {
			t.Error("no such fall:", seen)
		}
	}
}
