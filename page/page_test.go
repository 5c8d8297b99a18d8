package page

import (
	"bytes"
	"maps"
	"math"
	"slices"
	"strings"
	"testing"

	"breviary/api"
	"breviary/dev"
	"breviary/root"
)

// pages are what a store is to have.
type pages map[int]string

func made(t *testing.T, blocks int) *dev.Device {
	t.Helper()
	d, err := dev.New(blocks)
	if err != nil {
		t.Fatal(err)
	}
	return d
}

func opened(t *testing.T, d *dev.Device) *Store {
	t.Helper()
	s, err := Open(d)
	if s == nil || err != nil {
		t.Fatalf("Open: %v", err)
	}
	return s
}

func fresh(t *testing.T, blocks int) (*dev.Device, *Store) {
	t.Helper()
	d := made(t, blocks)
	return d, opened(t, d)
}

func write(t *testing.T, s *Store, all pages) {
	t.Helper()
	for p, b := range all {
		if err := s.Write(p, []byte(b)); err != nil {
			t.Fatalf("Write(%d) of %d bytes: %v", p, len(b), err)
		}
	}
}

func drop(t *testing.T, s *Store, ps ...int) {
	t.Helper()
	for _, p := range ps {
		if err := s.Drop(p); err != nil {
			t.Fatalf("Drop(%d): %v", p, err)
		}
	}
}

func commit(t *testing.T, s *Store) {
	t.Helper()
	if err := s.Commit(); err != nil {
		t.Fatalf("Commit: %v", err)
	}
}

// commits holds what a Commit answers.
func commits(t *testing.T, s *Store, want error) {
	t.Helper()
	if err := s.Commit(); err != want {
		t.Fatalf("Commit: %v, not %v", err, want)
	}
}

// put is a Commit of these pages.
func put(t *testing.T, s *Store, all pages) {
	t.Helper()
	write(t, s, all)
	commit(t, s)
}

// reads holds what page p has; empty: it is not there.
func reads(t *testing.T, s *Store, p int, want string) {
	t.Helper()
	b, err := s.Read(p)
	if want == "" && (len(b) > 0 || err != api.ErrNoEnt) || want > "" && (err != nil || string(b) != want) {
		t.Errorf("Read(%d): %q %v, not %q", p, b, err, want)
	}
}

// has holds all that a store tells of its pages.
func has(t *testing.T, s *Store, want pages) {
	t.Helper()
	if ps := s.Pages(); !slices.Equal(ps, slices.Sorted(maps.Keys(want))) {
		t.Errorf("Pages(): %v, not %v", ps, slices.Sorted(maps.Keys(want)))
	}
	for p := range api.MaxPages {
		reads(t, s, p, want[p])
	}
}

// tells holds how many pages were changed, and how many Commits there were.
func tells(t *testing.T, s *Store, changed int, epoch int64) {
	t.Helper()
	if s.Changed() != changed || s.Epoch() != epoch {
		t.Errorf("Changed() %d, Epoch() %d, not %d, %d", s.Changed(), s.Epoch(), changed, epoch)
	}
}

// of are so many pages, each one other than the others, and than those of another turn.
func of(n, turn int) pages {
	out := pages{}
	for k := range n {
		out[k*37%api.MaxPages] = strings.Repeat(string(rune('a'+(k+turn)%26)), 1+(7*k+turn)%api.PageSize)
	}
	return out
}

// callsLeft is how many Writes or Flushes a device still does, as far as 9.
func callsLeft(d *dev.Device) int {
	c := d.Clone()
	for n := range 9 {
		if c.Flush() != nil {
			return n
		}
	}
	return 9
}

// alike holds two devices against each other by all that they tell, and then behind a fall.
func alike(t *testing.T, got, want *dev.Device) {
	t.Helper()
	if got.Down() != want.Down() || got.Calls() != want.Calls() || got.Pending() != want.Pending() || got.Ever() != want.Ever() || callsLeft(got) != callsLeft(want) {
		t.Errorf("the device is another one: down %v, %d calls, %d pending, %d ever faulted", got.Down(), got.Calls(), got.Pending(), got.Ever())
	}
	got, want = got.Clone(), want.Clone()
	for range 2 {
		for i := range want.Blocks() {
			a, e := got.Read(i)
			b, f := want.Read(i)
			if e != f || !bytes.Equal(a, b) || got.Faulted(i) != want.Faulted(i) {
				t.Errorf("block %d is another one: %v %v, not %v %v", i, a, e, b, f)
			}
		}
		got.Crash()
		want.Crash()
	}
}

// fall takes the device's power.
func fall(t *testing.T, d *dev.Device) {
	t.Helper()
	d.Arm(1)
	if d.Flush() != api.ErrCrash {
		t.Fatal("armed")
	}
}

// sizes are devices' blocks, and their Half: the least, the greatest, and some between.
func sizes() [][2]int {
	return [][2]int{{300, 75}, {303, 75}, {304, 76}, {400, 100}, {801, 200}, {2047, 511}, {2048, 512}, {6000, 512}}
}

// noNumbers are no pages'.
func noNumbers() []int {
	return []int{-1, -2, -api.MaxPages, math.MinInt, api.MaxPages, api.MaxPages + 1, 1 << 16, 1 << 32, math.MaxInt}
}

// P7.1, of the examples: a new device has no page, and nothing of it is changed.
func TestNew(t *testing.T) {
	for _, x := range sizes() {
		d := made(t, x[0])
		d.Arm(1)
		was := d.Clone()
		s := opened(t, d)
		has(t, s, nil)
		tells(t, s, 0, 0)
		if u := s.Used(); !slices.Equal(u, []int{0, 1}) {
			t.Error(u)
		}
		commit(t, s)
		s.Abort()
		tells(t, s, 0, 0)
		alike(t, d, was)
	}
}

// P7.1: a number that is no page's is ErrRange, ahead of the shape, with nothing beside, and changes nothing.
func TestNoNumber(t *testing.T) {
	d, s := fresh(t, 400)
	put(t, s, of(5, 0))
	write(t, s, pages{9: "x"})
	was := d.Clone()
	for _, p := range noNumbers() {
		for _, n := range []int{0, 1, api.PageSize, api.PageSize + 1} {
			if err := s.Write(p, make([]byte, n)); err != api.ErrRange {
				t.Errorf("Write(%d) of %d bytes: %v", p, n, err)
			}
		}
		if b, err := s.Read(p); len(b) > 0 || err != api.ErrRange {
			t.Errorf("Read(%d): %v %v", p, b, err)
		}
		if err := s.Drop(p); err != api.ErrRange {
			t.Errorf("Drop(%d): %v", p, err)
		}
	}
	tells(t, s, 1, 1)
	alike(t, d, was)
}

// P7.1: bytes that are no page are ErrShape; the page stays as it was.
func TestNoShape(t *testing.T) {
	d, s := fresh(t, 400)
	put(t, s, pages{3: "abc"})
	write(t, s, pages{4: "new"})
	was := d.Clone()
	for _, b := range [][]byte{nil, {}, make([]byte, 0, 9), make([]byte, api.PageSize+1), make([]byte, api.BlockSize), make([]byte, 1000)} {
		for _, p := range []int{0, 3, 4, api.MaxPages - 1} {
			if err := s.Write(p, b); err != api.ErrShape {
				t.Errorf("Write(%d) of %d bytes: %v", p, len(b), err)
			}
		}
	}
	has(t, s, pages{3: "abc", 4: "new"})
	tells(t, s, 1, 1)
	alike(t, d, was)
}

// P7.1: pages of each length, and of all bytes, come back: ahead of a Commit, behind it, and behind another Open.
func TestEachLength(t *testing.T) {
	d, s := fresh(t, 6000)
	want := pages{}
	for n := 1; n <= api.PageSize; n++ {
		b := make([]byte, n)
		for i := range b {
			b[i] = byte(i*n - n)
		}
		want[n%200] = string(b)
		write(t, s, pages{n % 200: string(b)})
		reads(t, s, n%200, string(b))
		if n%40 == 0 || n == api.PageSize {
			has(t, s, want)
			commit(t, s)
			has(t, s, want)
			has(t, opened(t, d), want)
		}
	}
	zeros := pages{0: strings.Repeat("\x00", api.PageSize), 1: "\x00", 255: strings.Repeat("\xff", api.PageSize)}
	put(t, s, zeros)
	maps.Copy(want, zeros)
	has(t, opened(t, d), want)
}

// P7.1: each number is one of its own.
func TestEachNumber(t *testing.T) {
	d, s := fresh(t, 6000)
	for first := range 2 {
		want := pages{}
		for p := first; p < api.MaxPages; p += 2 {
			want[p] = strings.Repeat(string(rune('!'+p%90)), 1+p%api.PageSize)
		}
		drop(t, s, s.Pages()...)
		put(t, s, want)
		has(t, s, want)
		has(t, opened(t, d), want)
	}
}

// P7.1: nothing is on the device ahead of the Commit, and then all at once, for good.
func TestAtOnce(t *testing.T) {
	d, s := fresh(t, 400)
	put(t, s, pages{3: "abc", 200: "q", 7: "stays"})
	has(t, s, pages{3: "abc", 200: "q", 7: "stays"})
	was := d.Clone()
	write(t, s, pages{3: "new", 9: "nine"})
	drop(t, s, 200)
	alike(t, d, was)
	has(t, opened(t, d), pages{3: "abc", 200: "q", 7: "stays"})
	has(t, s, pages{3: "new", 9: "nine", 7: "stays"})
	tells(t, s, 3, 1)
	commit(t, s)
	tells(t, s, 0, 2)
	if d.Pending() != 0 {
		t.Error(d.Pending(), "pending")
	}
	d.Crash()
	has(t, s, pages{3: "new", 9: "nine", 7: "stays"})
	other := opened(t, d)
	has(t, other, pages{3: "new", 9: "nine", 7: "stays"})
	tells(t, other, 0, 2)
}

// P7.1: a page that was dropped is there no more, and may be written again.
func TestDrop(t *testing.T) {
	d, s := fresh(t, 400)
	put(t, s, pages{0: "zero", 41: "a", 42: "b", 255: "last"})
	drop(t, s, 42, 42, 5, 0)
	has(t, s, pages{41: "a", 255: "last"})
	write(t, s, pages{42: "again"})
	has(t, s, pages{41: "a", 42: "again", 255: "last"})
	commit(t, s)
	has(t, opened(t, d), pages{41: "a", 42: "again", 255: "last"})
	drop(t, s, 41, 42, 255)
	has(t, s, nil)
	commit(t, s)
	has(t, opened(t, d), nil)
	tells(t, opened(t, d), 0, 3)
	if u := s.Used(); !slices.Equal(u, []int{0, 1}) {
		t.Error("in use with no page:", u)
	}
}

// P7.1: Changed counts each page once that was written, also if it is as it was, or was dropped then; and what was dropped, if it had been there.
func TestChanged(t *testing.T) {
	for _, x := range []struct {
		do   string // a page's digit; ahead of it + writes, = writes what is there, - drops
		want int
	}{
		{"", 0}, {"-5", 0}, {"-5-5", 0}, {"+5", 1}, {"+5+5", 1}, {"+5-5", 1}, {"+5-5-5+5", 1},
		{"-1", 1}, {"-1-1", 1}, {"-1+1", 1}, {"=1", 1}, {"=1-1", 1}, {"-1-2-3", 3}, {"+1-2=3+4-5", 4},
	} {
		d, s := fresh(t, 400)
		was := pages{1: "one", 2: "two", 3: "three"}
		put(t, s, was)
		want := maps.Clone(was)
		for k := 0; k < len(x.do); k += 2 {
			p := int(x.do[k+1] - '0')
			switch x.do[k] {
			case '+':
				want[p] = "new"
				write(t, s, pages{p: "new"})
			case '=':
				write(t, s, pages{p: want[p]})
			default:
				delete(want, p)
				drop(t, s, p)
			}
		}
		tells(t, s, x.want, 1)
		has(t, s, want)
		epoch := int64(1)
		if x.want > 0 {
			epoch = 2
		}
		commit(t, s)
		tells(t, s, 0, epoch)
		has(t, opened(t, d), want)
		tells(t, opened(t, d), 0, epoch)
	}
}

// P7.1: behind an Abort all is as at the last Commit.
func TestAbort(t *testing.T) {
	d, s := fresh(t, 400)
	write(t, s, pages{1: "x"})
	s.Abort()
	has(t, s, nil)
	put(t, s, pages{1: "one", 2: "two"})
	was := d.Clone()
	write(t, s, pages{1: "x", 3: "y"})
	drop(t, s, 2)
	s.Abort()
	tells(t, s, 0, 1)
	has(t, s, pages{1: "one", 2: "two"})
	commit(t, s)
	alike(t, d, was)
	put(t, s, pages{3: "three"})
	has(t, opened(t, d), pages{1: "one", 2: "two", 3: "three"})
}

// P7.1: with nothing changed a Commit writes nothing: it doesn't ask for the power, either.
func TestCommitNothing(t *testing.T) {
	d, s := fresh(t, 400)
	put(t, s, of(9, 0))
	d.Arm(1)
	was := d.Clone()
	commit(t, s)
	alike(t, d, was)
	fall(t, d)
	commit(t, s)
	tells(t, s, 0, 1)
}

// P7.1: Epoch is how many Commits wrote, on devices of each kind.
func TestEpoch(t *testing.T) {
	for _, x := range sizes() {
		d, s := fresh(t, x[0])
		for e := range int64(7) {
			tells(t, s, 0, e)
			commit(t, s)
			put(t, s, of(7, int(e)))
			s = opened(t, d)
		}
	}
}

// P7.1: a Commit writes nothing but mirrored blocks that the state ahead of it doesn't use, and the next root's.
func TestCommitPlaces(t *testing.T) {
	d, s := fresh(t, 400)
	for turn := range 12 {
		used := s.Used()
		was := d.Clone()
		put(t, s, of(1+turn%5*4, turn))
		for i := range 400 {
			a, _ := was.Read(i)
			b, err := d.Read(i)
			in := slices.Contains(used, i%100) && i%100 != int(s.Epoch()%2)
			if err != nil || (i >= 200 || in) && !bytes.Equal(a, b) {
				t.Fatalf("turn %d: block %d was written", turn, i)
			}
		}
	}
}

// P7.1: a Commit of one page writes no more than it needs: the page, what says where it is, the root, each twice, and two Flushes.
func TestCommitLittle(t *testing.T) {
	d, s := fresh(t, 2048)
	put(t, s, of(180, 0))
	calls := d.Calls()
	put(t, s, pages{100: "x"})
	if n := d.Calls() - calls; n != 8 {
		t.Error(n, "calls")
	}
}

// fullest is how many pages, from the first one on, a Commit takes.
func fullest(t *testing.T, blocks int) int {
	t.Helper()
	n := 0
	for ; n < api.MaxPages; n++ {
		_, s := fresh(t, blocks)
		for p := range n + 1 {
			write(t, s, pages{p: "x"})
		}
		if err := s.Commit(); err == api.ErrFull {
			break
		} else if err != nil {
			t.Fatal(err)
		}
	}
	return n
}

// P7.1: where more than half of Half would be in use it is ErrFull, and not where there is room: what was changed stays, and nothing is written.
func TestFull(t *testing.T) {
	for _, x := range sizes() {
		n := fullest(t, x[0])
		d, s := fresh(t, x[0])
		for turn := range 4 {
			for p := range n {
				write(t, s, pages{p: strings.Repeat(string(rune('a'+turn)), api.PageSize)})
			}
			commit(t, s)
		}
		more := 1 // block for the next page, and one to say where it is, if none does yet
		if n%slots == 0 {
			more = 2
		}
		if u := len(s.Used()); 2*u > x[1] || 2*(u+more) <= x[1] {
			t.Errorf("%d blocks: %d pages, %d in use", x[0], n, u)
		}
		want := pages{}
		for p := range n {
			want[p] = strings.Repeat("d", api.PageSize)
		}
		has(t, opened(t, d), want)
		d.Arm(1)
		was := d.Clone()
		write(t, s, pages{n: "more", 0: "new"})
		commits(t, s, api.ErrFull)
		alike(t, d, was)
		tells(t, s, 2, 4)
		want[n], want[0] = "more", "new"
		has(t, s, want)
		commits(t, s, api.ErrFull)
		d.Arm(0)
		drop(t, s, 1)
		delete(want, 1)
		commit(t, s)
		has(t, s, want)
		has(t, opened(t, d), want)
	}
}

// P7.1: ErrFull comes ahead of ErrCrash.
func TestFullDown(t *testing.T) {
	d, s := fresh(t, 300)
	put(t, s, of(3, 0))
	write(t, s, of(60, 1))
	fall(t, d)
	commits(t, s, api.ErrFull)
	s.Abort()
	write(t, s, pages{1: "x"})
	commits(t, s, api.ErrCrash)
}

// P7.1: where there is no room for what is written, it is ErrFull, also if less than ahead would be in use. (Only what no Commit left takes so much.)
func TestNoRoom(t *testing.T) {
	d, s := fresh(t, 300)
	now := state{epoch: 7}
	for p := range 70 {
		now.pages[p].Addr = 2 + p
	}
	s.now = now
	was := d.Clone()
	want := pages{}
	for p := 10; p < 70; p++ {
		drop(t, s, p)
	}
	for p := range 4 {
		want[100+p] = "x"
	}
	write(t, s, want)
	commits(t, s, api.ErrFull)
	alike(t, d, was)
	tells(t, s, 64, 7)
}

// P7.1 with root's: behind the last Epoch that a root may have, a Commit is ErrRange, and changes nothing.
func TestLastEpoch(t *testing.T) {
	d, s := fresh(t, 400)
	put(t, s, of(5, 0))
	r, _, err := root.Load(d)
	if err != nil {
		t.Fatal(err)
	}
	r.Epoch = 1<<40 - 1
	if err := root.Save(d, r); err != nil {
		t.Fatal(err)
	}
	s = opened(t, d)
	put(t, s, of(5, 1))
	tells(t, s, 0, 1<<40)
	has(t, opened(t, d), of(5, 1))
	write(t, s, pages{9: "x"})
	was := d.Clone()
	commits(t, s, api.ErrRange)
	alike(t, d, was)
	tells(t, s, 1, 1<<40)
	reads(t, s, 9, "x")
}

// P7.1: a Read tells what is written, whichever one of a page's two blocks is faulted; with both it is ErrIO, and nothing else.
func TestReadFaulted(t *testing.T) {
	d, s := fresh(t, 300)
	put(t, s, of(8, 0))
	put(t, s, pages{37: "thirty-seven"})
	want := of(8, 0)
	want[37] = "thirty-seven"
	for p := range want {
		at := s.now.pages[p].Addr
		for kind := range 40 {
			for which := range 3 {
				c := d.Clone()
				x := opened(t, c)
				if which != 1 {
					harm(t, c, 1+kind, at)
				}
				if which != 0 {
					harm(t, c, 1+kind, at+75)
				}
				if which < 2 {
					has(t, x, want)
					continue
				}
				was := c.Clone()
				if b, err := x.Read(p); len(b) > 0 || err != api.ErrIO {
					t.Errorf("Read(%d): %q %v", p, b, err)
				}
				alike(t, c, was)
				put(t, x, pages{p: "anew"})
				reads(t, x, p, "anew")
				reads(t, opened(t, c), p, "anew")
			}
		}
	}
}

// harm does one of the kinds of fault: none; unreadable; turned, at some place.
func harm(t *testing.T, d *dev.Device, kind, i int) {
	t.Helper()
	ok := true
	switch {
	case kind == 1:
		ok = d.Fail(i)
	case kind > 1:
		ok = d.Spoil(i, 13*(kind-2)%253, 1<<(kind%32))
	}
	if !ok {
		t.Fatal("no fault", kind, i)
	}
}

// P7.1: both blocks of a page that is changed, or dropped, aren't asked for any more.
func TestReadChanged(t *testing.T) {
	d, s := fresh(t, 300)
	put(t, s, pages{1: "one", 2: "two", 3: "three"})
	for _, ref := range s.now.pages {
		if ref.Addr > 0 {
			harm(t, d, 1, ref.Addr)
			harm(t, d, 1, ref.Addr+75)
		}
	}
	write(t, s, pages{1: "new"})
	drop(t, s, 2)
	reads(t, s, 1, "new")
	reads(t, s, 2, "")
	if b, err := s.Read(3); len(b) > 0 || err != api.ErrIO {
		t.Error(b, err)
	}
	commit(t, s)
	s = opened(t, d)
	reads(t, s, 1, "new")
	reads(t, s, 2, "")
	if b, err := s.Read(3); len(b) > 0 || err != api.ErrIO || !slices.Equal(s.Pages(), []int{1, 3}) {
		t.Error(b, err, s.Pages())
	}
}

// P7.1: a block that has the sum, but is none of a page, can't be read as one.
func TestReadForged(t *testing.T) {
	for _, c := range []byte{0, api.PageSize + 1, 255} {
		_, s := fresh(t, 300)
		b := make([]byte, api.BlockSize)
		b[0] = c
		put(t, s, pages{5: "five"})
		ref, err := s.pairs.Write(50, b)
		if err != nil {
			t.Fatal(err)
		}
		s.now.pages[5] = ref
		if b, err := s.Read(5); len(b) > 0 || err != api.ErrIO {
			t.Error(c, b, err)
		}
	}
}

// P7.1: while the device is down, what is on it is ErrCrash.
func TestDown(t *testing.T) {
	d, s := fresh(t, 300)
	put(t, s, pages{1: "one"})
	fall(t, d)
	if b, err := s.Read(1); len(b) > 0 || err != api.ErrCrash {
		t.Error(b, err)
	}
	if s, err := Open(d); s != nil || err != api.ErrCrash {
		t.Error(err)
	}
	d.Crash()
	has(t, opened(t, d), pages{1: "one"})
}

// P0.4: a Write keeps nothing of what it is handed, changes nothing of it, and takes nothing of what is behind its length.
func TestWriteMemory(t *testing.T) {
	d, s := fresh(t, 300)
	room := []byte("abcdefgh")
	if err := s.Write(1, room[:3]); err != nil {
		t.Fatal(err)
	}
	if string(room) != "abcdefgh" {
		t.Error("changed")
	}
	copy(room, "xxxxxxxx")
	reads(t, s, 1, "abc")
	commit(t, s)
	reads(t, s, 1, "abc")
	reads(t, opened(t, d), 1, "abc")
}

// P0.4: what is answered is new memory, spare room too.
func TestAnswersMemory(t *testing.T) {
	_, s := fresh(t, 300)
	put(t, s, pages{1: "abc", 9: "d"})
	write(t, s, pages{2: "efg"})
	for range 2 {
		for p, want := range map[int]string{1: "abc", 2: "efg"} {
			a, _ := s.Read(p)
			b, _ := s.Read(p)
			overwrite(a, 'x')
			if string(b) != want {
				t.Errorf("%q", b)
			}
			overwrite(b, 'y')
			reads(t, s, p, want)
		}
		for _, list := range []func() []int{s.Pages, s.Used} {
			was := slices.Clone(list())
			a, b := list(), list()
			overwrite(a, 77)
			if !slices.Equal(b, was) || !slices.Equal(list(), was) {
				t.Error(b, list(), was)
			}
		}
		commit(t, s)
	}
}

func overwrite[T any](l []T, x T) {
	for i := range l[:cap(l)] {
		l[:cap(l)][i] = x
	}
}
