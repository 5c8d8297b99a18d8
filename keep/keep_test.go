package keep

import (
	"bytes"
	"maps"
	"math/rand"
	"slices"
	"strconv"
	"strings"
	"testing"

	"breviary/api"
	"breviary/dev"
	"breviary/page"
	"breviary/root"
)

// keys are what a keep is to have.
type keys map[string]string

func made(t *testing.T, blocks int) *dev.Device {
	t.Helper()
	d, err := dev.New(blocks)
	if err != nil {
		t.Fatal(err)
	}
	return d
}

func stored(t *testing.T, d *dev.Device) *page.Store {
	t.Helper()
	s, err := page.Open(d)
	if err != nil {
		t.Fatalf("page.Open: %v", err)
	}
	return s
}

func kept(t *testing.T, s *page.Store) *Keep {
	t.Helper()
	k, err := Open(s)
	if k == nil || err != nil {
		t.Fatalf("Open: %v", err)
	}
	return k
}

// opened is what is on a device.
func opened(t *testing.T, d *dev.Device) *Keep {
	t.Helper()
	return kept(t, stored(t, d))
}

func fresh(t *testing.T, blocks int) (*dev.Device, *Keep) {
	t.Helper()
	d := made(t, blocks)
	return d, opened(t, d)
}

// mixed are the keys of all, one of the last ones, one of the first ones, and so on to the middle.
func mixed(all keys) []string {
	var out []string
	for rest := slices.Sorted(maps.Keys(all)); len(rest) > 0; slices.Reverse(rest) {
		last := len(rest) - 1
		out = append(out, rest[last])
		rest = rest[:last]
	}
	return out
}

func put(t *testing.T, k *Keep, all keys) {
	t.Helper()
	for _, key := range mixed(all) {
		if err := k.Put([]byte(key), []byte(all[key])); err != nil {
			t.Fatalf("Put of %d and %d bytes: %v", len(key), len(all[key]), err)
		}
	}
}

// del deletes what is there.
func del(t *testing.T, k *Keep, all ...string) {
	t.Helper()
	for _, key := range all {
		if !k.Del([]byte(key)) {
			t.Fatalf("Del(%q): it was not there", key)
		}
	}
}

// commits holds what a Commit answers.
func commits(t *testing.T, k *Keep, want error) {
	t.Helper()
	if err := k.Commit(); err != want {
		t.Fatalf("Commit: %v, not %v, with %d keys", err, want, k.Len())
	}
}

// turn has k be as all says, and commits that.
func turn(t *testing.T, k *Keep, all keys) {
	t.Helper()
	change(t, k, all)
	commits(t, k, nil)
}

// change has k be as all says.
func change(t *testing.T, k *Keep, all keys) {
	t.Helper()
	for _, x := range k.Scan(nil, nil) {
		if _, is := all[string(x.Key)]; !is {
			del(t, k, string(x.Key))
		}
	}
	put(t, k, all)
}

// within is what of all is from from on, ahead of to, as one text.
func within(all keys, from, to string) string {
	out := ""
	for _, key := range slices.Sorted(maps.Keys(all)) {
		if key >= from && (to == "" || key < to) {
			out += strconv.Quote(key) + strconv.Quote(all[key])
		}
	}
	return out
}

// scan is what a Scan tells, likewise.
func scan(k *Keep, from, to string) string {
	out := ""
	for _, x := range k.Scan([]byte(from), []byte(to)) {
		out += strconv.Quote(string(x.Key)) + strconv.Quote(string(x.Value))
	}
	return out
}

// gets holds whether key is there, with which value.
func gets(t *testing.T, k *Keep, key, value string, is bool) {
	t.Helper()
	if v, ok := k.Get([]byte(key)); string(v) != value || ok != is {
		t.Errorf("Get(%q): %q %v, not %q %v", key, v, ok, value, is)
	}
}

// has holds all that a keep tells.
func has(t *testing.T, k *Keep, want keys) {
	t.Helper()
	if k.Len() != len(want) {
		t.Errorf("Len(): %d, not %d", k.Len(), len(want))
	}
	if got := scan(k, "", ""); got != within(want, "", "") {
		t.Errorf("Scan: %s, not %s", got, within(want, "", ""))
	}
	for key, value := range want {
		gets(t, k, key, value, true)
	}
}

// numbered are so many keys, each one with another value than the others, and than those of another turn.
func numbered(n, turn int) keys {
	out := keys{}
	for i := range n {
		out["key"+strconv.Itoa(i*37%1000)] = strconv.Itoa(turn) + strings.Repeat("v", i%50)
	}
	return out
}

// alike holds two devices against each other by all that they tell, and then behind a fall.
func alike(t *testing.T, got, want *dev.Device) {
	t.Helper()
	if got.Down() != want.Down() || got.Calls() != want.Calls() || got.Pending() != want.Pending() {
		t.Errorf("the device is another one: down %v, %d calls, %d pending", got.Down(), got.Calls(), got.Pending())
	}
	got, want = got.Clone(), want.Clone()
	for range 2 {
		for i := range want.Blocks() {
			a, e := got.Read(i)
			b, f := want.Read(i)
			if e != f || !bytes.Equal(a, b) || got.Faulted(i) != want.Faulted(i) {
				t.Errorf("block %d is another one: %v %v, not %v %v", i, a, e, b, f)
			}
		}
		got.Crash()
		want.Crash()
	}
}

// fall takes the device's power.
func fall(t *testing.T, d *dev.Device) {
	t.Helper()
	d.Arm(1)
	if d.Flush() != api.ErrCrash {
		t.Fatal("armed")
	}
}

// lie holds that the leaves lie as they have to: the store's pages, within their room, none of them too many.
func lie(t *testing.T, k *Keep) {
	t.Helper()
	var pages []int
	for n, l := range k.leaves {
		pages = append(pages, l.page)
		if len(l.records) == 0 || size(l.records...) > api.PageSize {
			t.Fatalf("page %d: %v", l.page, l.records)
		}
		if n > 0 && size(k.leaves[n-1].records...)+size(l.records...) <= api.PageSize {
			t.Fatalf("the pages %d and %d are one too many", k.leaves[n-1].page, l.page)
		}
	}
	slices.Sort(pages)
	if !slices.Equal(pages, k.store.Pages()) || k.store.Changed() != 0 {
		t.Fatalf("pages %v, not %v; %d changed", k.store.Pages(), pages, k.store.Changed())
	}
}

// well holds that, and that they are what the store has.
func well(t *testing.T, k *Keep) {
	t.Helper()
	lie(t, k)
	for _, l := range k.leaves {
		if b, err := k.store.Read(l.page); err != nil || !bytes.Equal(b, laid(l.records)) {
			t.Fatalf("page %d: %v %v, not %v", l.page, b, err, laid(l.records))
		}
	}
}

// P8.1: on a new store is no key, and to commit that writes nothing.
func TestNew(t *testing.T) {
	for _, blocks := range []int{300, 301, 2047, 2048, 6000} {
		d := made(t, blocks)
		d.Arm(1)
		was := d.Clone()
		k := opened(t, d)
		has(t, k, nil)
		gets(t, k, "a", "", false)
		if k.Del([]byte("a")) {
			t.Error("Del")
		}
		k.Abort()
		commits(t, k, nil)
		has(t, k, nil)
		alike(t, d, was)
	}
}

// Of the examples.
func TestExample(t *testing.T) {
	_, k := fresh(t, 300)
	for _, key := range []string{"b", "a"} {
		if err := k.Put([]byte(key), nil); err != nil {
			t.Fatal(err)
		}
	}
	if l := k.Scan(nil, nil); len(l) != 2 || string(l[0].Key) != "a" || string(l[1].Key) != "b" {
		t.Error(l)
	}
}

// P8.1: a key, or a value, that has too many bytes, or a key that has none, is ErrRange, and all stays as it was.
func TestPutRange(t *testing.T) {
	d, k := fresh(t, 300)
	whole := strings.Repeat("\x00", api.MaxKey)
	turn(t, k, keys{whole: "w", "a": "1"})
	put(t, k, keys{"b": "2"})
	for _, x := range [][2]int{{0, 0}, {0, 5}, {0, api.MaxValue}, {0, api.MaxValue + 1}, {api.MaxKey + 1, 0}, {api.MaxKey + 1, 5}, {1000, 1}, {1, api.MaxValue + 1}, {api.MaxKey, api.MaxValue + 1}, {1, 1000}, {1000, 1000}} {
		if err := k.Put(make([]byte, x[0]), make([]byte, x[1])); err != api.ErrRange {
			t.Errorf("Put of %d and %d bytes: %v", x[0], x[1], err)
		}
		has(t, k, keys{whole: "w", "a": "1", "b": "2"})
	}
	if err := k.Put(nil, nil); err != api.ErrRange {
		t.Error(err)
	}
	k.Abort()
	has(t, k, keys{whole: "w", "a": "1"})
	has(t, opened(t, d), keys{whole: "w", "a": "1"})
}

// P8.1: keys and values of each length, and of all bytes, come back: ahead of a Commit, behind it, and behind another Open.
func TestEachLength(t *testing.T) {
	d, k := fresh(t, 2048)
	some := func(n, seed int) string {
		b := make([]byte, n)
		for i := range b {
			b[i] = byte(seed + i*i*n)
		}
		return string(b)
	}
	for round := range 8 {
		want := keys{}
		for n := 1; n <= api.MaxKey; n++ {
			for m := round; m <= api.MaxValue; m += 8 {
				if (n+m)%4 == round%4 {
					want[some(n, m*31+n)] = some(m, n*17+m)
				}
			}
		}
		for n := range 256 {
			want[string([]byte{byte(n), byte(round)})] = string([]byte{byte(n)})
		}
		change(t, k, want)
		has(t, k, want)
		commits(t, k, nil)
		has(t, k, want)
		has(t, opened(t, d), want)
		well(t, k)
	}
}

// P8.1: a key that is put again has the newer value, longer or shorter.
func TestPutAgain(t *testing.T) {
	d, k := fresh(t, 300)
	want := numbered(60, 0)
	put(t, k, want)
	for _, n := range []int{0, 1, 119, 120, 64, 63, 0, 50} {
		for key := range numbered(20, 0) {
			want[key] = strings.Repeat("x", n)
			put(t, k, keys{key: "soon another"})
			put(t, k, keys{key: want[key]})
		}
		has(t, k, want)
		commits(t, k, nil)
		has(t, opened(t, d), want)
		well(t, k)
	}
}

// P8.1: a key that was deleted is there no more; of one that is not there Del is false, and changes nothing.
func TestDel(t *testing.T) {
	d, k := fresh(t, 300)
	want := numbered(60, 0)
	turn(t, k, want)
	for _, key := range []string{"", "a", "key", "key00", "zzz", "\x00", strings.Repeat("k", api.MaxKey), strings.Repeat("k", api.MaxKey+1), "key0\x00"} {
		if k.Del([]byte(key)) {
			t.Errorf("Del(%q)", key)
		}
		gets(t, k, key, "", false)
	}
	if k.Del(nil) {
		t.Error("Del of none")
	}
	has(t, k, want)
	for i, key := range slices.Sorted(maps.Keys(numbered(60, 0))) {
		del(t, k, key)
		delete(want, key)
		if k.Del([]byte(key)) {
			t.Errorf("Del(%q) again", key)
		}
		gets(t, k, key, "", false)
		has(t, k, want)
		if i%7 == 0 {
			commits(t, k, nil)
			has(t, opened(t, d), want)
			well(t, k)
		}
		if i%5 == 0 {
			put(t, k, keys{key: "back"})
			want[key] = "back"
		}
	}
	turn(t, k, nil)
	has(t, opened(t, d), nil)
	if p := k.store.Pages(); len(p) > 0 {
		t.Error("pages without keys:", p)
	}
}

// P8.1: Scan tells what is from from on, ahead of to, rising byte by byte; an empty to is the end; where to is not behind from there is nothing.
func TestScan(t *testing.T) {
	d, k := fresh(t, 300)
	want := keys{}
	for i, key := range []string{"\x00", "\x00\x00", "\x01", "a", "a\x00", "aa", "ab", "b", "ba", "z", "\x7f", "\x80", "\xc3\xa9", "\xff", "\xff\x00", "\xff\xff", strings.Repeat("\xff", api.MaxKey)} {
		want[key] = strings.Repeat(string(rune('A'+i)), 5*i)
	}
	ends := []string{"", "\x00\x00\x00", "A", "ac", "a\x01", strings.Repeat("a", 99), strings.Repeat("\xff", api.MaxKey+1), "é", "y", "zz", "\x81"}
	ends = slices.AppendSeq(ends, maps.Keys(want))
	put(t, k, want)
	for range 2 {
		for _, from := range ends {
			for _, to := range ends {
				if got := scan(k, from, to); got != within(want, from, to) {
					t.Errorf("Scan(%q, %q): %s, not %s", from, to, got, within(want, from, to))
				}
			}
		}
		commits(t, k, nil)
		k = opened(t, d)
	}
}

// P8.1: nothing is on the device ahead of the Commit, and then all at once, for good.
func TestAtOnce(t *testing.T) {
	d, k := fresh(t, 300)
	was := numbered(40, 0)
	turn(t, k, was)
	before := d.Clone()
	want := numbered(50, 1)
	delete(want, "key0")
	want["a"], want["z"] = "first", ""
	change(t, k, want)
	alike(t, d, before)
	has(t, opened(t, d), was)
	has(t, k, want)
	commits(t, k, nil)
	has(t, k, want)
	if d.Pending() != 0 {
		t.Error(d.Pending(), "pending")
	}
	d.Crash()
	has(t, opened(t, d), want)
	has(t, kept(t, k.store), want)
}

// P8.1: behind an Abort all is as at the last Commit.
func TestAbort(t *testing.T) {
	d, k := fresh(t, 300)
	put(t, k, numbered(9, 0))
	k.Abort()
	has(t, k, nil)
	for round := range 5 {
		want := numbered(30+10*round, round)
		turn(t, k, want)
		was := d.Clone()
		k.Abort()
		has(t, k, want)
		change(t, k, numbered(20, 9))
		put(t, k, keys{"more": "x", "key0": "new"})
		k.Abort()
		has(t, k, want)
		commits(t, k, nil)
		alike(t, d, was)
		k.Del([]byte("key0"))
		k.Abort()
		has(t, k, want)
		has(t, opened(t, d), want)
		if round%2 == 0 {
			k = opened(t, d)
			put(t, k, keys{"key0": "new"})
			k.Abort()
			has(t, k, want)
		}
	}
}

// A Commit of what is as it was writes nothing: it doesn't ask for the power, either.
func TestCommitNothing(t *testing.T) {
	d, k := fresh(t, 300)
	want := numbered(50, 0)
	turn(t, k, want)
	d.Arm(1)
	was := d.Clone()
	commits(t, k, nil)
	put(t, k, want)
	commits(t, k, nil)
	put(t, k, keys{"new": "x", "key0": "new"})
	del(t, k, "new", "key37")
	put(t, k, keys{"key37": want["key37"], "key0": want["key0"]})
	commits(t, k, nil)
	commits(t, opened(t, d), nil)
	alike(t, d, was)
	fall(t, d)
	commits(t, k, nil)
	has(t, k, want)
}

// Where there is room a Commit writes only pages about what was changed: on each side of it one, at most.
func TestCommitLittle(t *testing.T) {
	for _, key := range []string{"a", "key10", "key500", "key500x", "z"} {
		for _, n := range []int{0, 60, 120} {
			d, k := fresh(t, 2048)
			want := numbered(400, 0)
			turn(t, k, want)
			calls := d.Calls()
			for range 2 {
				want[key] = strings.Repeat("x", n)
				turn(t, k, want)
				delete(want, key)
				turn(t, k, want)
			}
			// a page, or four, each with an index of its own; the root; each twice, and two Flushes
			if n := d.Calls() - calls; n > 4*(2*4+2*4+2+2) {
				t.Error(key, n, "calls")
			}
			has(t, opened(t, d), want)
			well(t, k)
		}
	}
}

// P8.1: where there are not pages enough it is ErrFull: what was put and deleted stays as it is, and nothing is written; nor does the store keep any of it.
func TestFull(t *testing.T) {
	for _, blocks := range []int{300, 304, 1200, 2048, 6000} {
		d, k := fresh(t, blocks)
		want := numbered(30, 0)
		turn(t, k, want)
		before := maps.Clone(want)
		for i := range 900 {
			want["more"+strconv.Itoa(i*7%900)] = strings.Repeat("m", api.MaxValue)
		}
		delete(want, "key0")
		d.Arm(1)
		was := d.Clone()
		change(t, k, want)
		for range 3 {
			commits(t, k, api.ErrFull)
			has(t, k, want)
			if k.store.Changed() != 0 {
				t.Error(k.store.Changed(), "pages of the store are changed")
			}
		}
		alike(t, d, was)
		has(t, opened(t, d), before)
		d.Arm(0)
		for i := range 900 - 4 {
			del(t, k, "more"+strconv.Itoa(i))
			delete(want, "more"+strconv.Itoa(i))
		}
		commits(t, k, nil)
		has(t, k, want)
		has(t, opened(t, d), want)
		put(t, k, keys{"first": ""})
		commits(t, k, nil)
		well(t, k)
	}
}

// P8.1: there are pages enough as long as the store takes them, filled to their last byte.
func TestFullPages(t *testing.T) {
	for _, x := range [][2]int{{300, 34}, {6000, 248}} { // blocks, and how many pages the store takes
		for _, y := range [][2]int{{60, 4}, {121, 2}} { // bytes of a key with its value, and how many of them fill a page
			d, k := fresh(t, x[0])
			want := keys{}
			for i := range x[1] * y[1] {
				want[sized(0, i, 10)] = strings.Repeat("v", y[0]-10)
			}
			turn(t, k, want)
			has(t, opened(t, d), want)
			well(t, k)
			if pages := len(k.store.Pages()); pages != x[1] {
				t.Errorf("%d pages, not %d", pages, x[1])
			}
			put(t, k, keys{"x": ""})
			commits(t, k, api.ErrFull)
			last := slices.Max(slices.Collect(maps.Keys(want)))
			put(t, k, keys{last: want[last][3:]}) // as many bytes less as x takes
			commits(t, k, nil)
		}
	}
}

// same are the first n keys of a row, all with that value.
func same(n int, value string) keys {
	out := keys{}
	for i := range n {
		out[strconv.Itoa(100000+7*i)] = value
	}
	return out
}

// fullest is how many of these keys a new keep takes, found by halves.
func fullest(t *testing.T, blocks int, value string) int {
	t.Helper()
	most := 0
	for step := 1 << 12; step > 0; step /= 2 {
		_, k := fresh(t, blocks)
		put(t, k, same(most+step, value))
		if k.Commit() == nil {
			most += step
		}
	}
	return most
}

// P8.1: it is not ErrFull as long as the store has pages for the keys, packed as they may be, in whichever order, and by however many Commits, they came and went ahead of that.
func TestFullAtLast(t *testing.T) {
	for _, x := range [][2]int{{300, 0}, {300, 5}, {300, 80}, {304, 120}, {1200, 60}, {2048, 40}, {2048, 120}} {
		value := strings.Repeat("v", x[1])
		most := fullest(t, x[0], value)
		want := same(most, value)
		y := rand.New(rand.NewSource(int64(x[0] + x[1])))
		d, k := fresh(t, x[0])
		for range 4 {
			for _, i := range y.Perm(most) {
				put(t, k, keys{strconv.Itoa(100000 + 7*i): value})
				if y.Intn(most) < 20 {
					commits(t, k, nil)
				}
			}
			commits(t, k, nil)
			has(t, opened(t, d), want)
			put(t, k, same(most+1, value))
			commits(t, k, api.ErrFull)
			k.Abort()
			has(t, k, want)
			for _, key := range slices.Sorted(maps.Keys(want)) {
				if y.Intn(8) > 0 {
					del(t, k, key)
				}
				if y.Intn(most) < 20 {
					commits(t, k, nil)
				}
			}
			commits(t, k, nil)
			well(t, k)
		}
	}
}

// P8.1: the store's errors go up: of a device that is down, and of a store that counts no Commit more; nothing is written then.
func TestCommitErrors(t *testing.T) {
	d, k := fresh(t, 300)
	want := numbered(20, 0)
	turn(t, k, want)
	put(t, k, keys{"key0": "new"})
	fall(t, d)
	commits(t, k, api.ErrCrash)
	d.Crash()
	has(t, opened(t, d), want)

	r, _, err := root.Load(d)
	if err != nil {
		t.Fatal(err)
	}
	r.Epoch = 1 << 40
	if err := root.Save(d, r); err != nil {
		t.Fatal(err)
	}
	k = opened(t, d)
	was := d.Clone()
	want["key0"] = "new"
	put(t, k, keys{"key0": "new"})
	commits(t, k, api.ErrRange)
	has(t, k, want)
	alike(t, d, was)
	if k.store.Changed() != 0 {
		t.Error(k.store.Changed(), "pages of the store are changed")
	}
}

// What else was changed in the store is not committed with the keys.
func TestCommitAlone(t *testing.T) {
	d, k := fresh(t, 300)
	turn(t, k, numbered(20, 0))
	for _, p := range []int{0, 1, 200} {
		if err := k.store.Write(p, []byte("no keys")); err != nil {
			t.Fatal(err)
		}
	}
	put(t, k, keys{"a": "1", "z": "2"})
	commits(t, k, nil)
	want := numbered(20, 0)
	want["a"], want["z"] = "1", "2"
	has(t, opened(t, d), want)
	well(t, k)
}

// P0.4: what is handed in is neither changed nor kept, and what is behind its length is not taken.
func TestPutMemory(t *testing.T) {
	d, k := fresh(t, 300)
	room := []byte("keyvalue-more")
	if err := k.Put(room[:3], room[3:8]); err != nil {
		t.Fatal(err)
	}
	from, to := []byte("kez")[:2], []byte("kfz")[:2]
	k.Scan(from, to)
	k.Get(room[:3])
	k.Del(room[3:8])
	if string(room) != "keyvalue-more" || string(from[:3]) != "kez" || string(to[:3]) != "kfz" {
		t.Error("changed")
	}
	for i := range room {
		room[i] = 'x'
	}
	has(t, k, keys{"key": "value"})
	commits(t, k, nil)
	has(t, opened(t, d), keys{"key": "value"})
}

// P0.4: what is answered is new memory, spare room too.
func TestAnswersMemory(t *testing.T) {
	d, k := fresh(t, 300)
	want := keys{"a": "1", "b": "", "ccc": "333"}
	put(t, k, want)
	for range 3 {
		lists := [][]Pair{k.Scan(nil, nil), k.Scan(nil, nil), k.Scan([]byte("b"), nil)}
		for i, l := range lists {
			for n := range l {
				overwrite(l[n].Key, 'x')
				overwrite(l[n].Value, 'y')
				for m, x := range l[n+1:] {
					if string(x.Value) != want[string(x.Key)] {
						t.Errorf("%d shows what %d has: %q %q", n+1+m, n, x.Key, x.Value)
					}
				}
			}
			overwrite(l, Pair{Key: []byte("z")})
			for _, later := range lists[i+1:] {
				for _, x := range later {
					if string(x.Value) != want[string(x.Key)] {
						t.Errorf("another Scan shows it: %q %q", x.Key, x.Value)
					}
				}
			}
		}
		a, _ := k.Get([]byte("ccc"))
		b, _ := k.Get([]byte("ccc"))
		overwrite(a, 'x')
		if string(b) != "333" {
			t.Errorf("%q", b)
		}
		has(t, k, want)
		commits(t, k, nil)
		k.Abort()
		has(t, k, want)
	}
	has(t, opened(t, d), want)
}

func overwrite[T any](l []T, x T) {
	for i := range l[:cap(l)] {
		l[:cap(l)][i] = x
	}
}
