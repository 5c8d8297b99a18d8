package dir

import (
	"fmt"
	"math"
	"math/rand"
	"slices"
	"strings"
	"testing"

	"breviary/api"
)

// most is the greatest Node of an entry.
const most = 1<<24 - 1

// long is a name of just as many bytes as may be.
const long = "123456789012345678901234"

func entry(s string, node, kind int) api.Entry { return api.Entry{Name: s, Node: node, Kind: kind} }

// good are texts that may be names of entries, among them some that order by runes, by length or by letters would set elsewhere.
func good() []string {
	return []string{"\x01", " ", "-", "...", "10", "2", "A", "B", "a", "a b", "a\x01", "aa", "aaa", "ab", "b", "ba", ".a", "a.", "..a", "\x7f", "\x80", "\xc3", "\u00fc", "\u20ac", "\uffff", "\U00010000", "\xff", "\xff\x01", "\xff\xff", long[:23], long}
}

// bad are texts that no entry's name is.
func bad() []string {
	return []string{"", ".", "..", "/", "a/", "/a", "a/b", "\x00", "a\x00", "\x00a", long + "5", long + "/", strings.Repeat(".", 25), strings.Repeat("\x00", 1000)}
}

// numbers are such about the edges of what a Node may be, and of what wraps round in fewer bits.
func numbers() []int {
	return []int{math.MinInt, -1 << 32, -1 << 24, -most, -2, -1, 0, 1, 2, 255, 256, 65535, 65536, most - 1, most, most + 1, most + 2, 1 << 25, 1 << 32, 1<<32 + 1, 1 << 56, math.MaxInt}
}

// kinds are those that may be, and others.
func kinds() []int {
	return []int{math.MinInt, -255, -3, -1, 0, api.File, api.Dir, api.Link, 4, 5, 257, 1<<32 + 1, math.MaxInt}
}

func nodeMay(n int) bool { return n > 0 && n < 1<<24 }

func kindMay(k int) bool { return k == 1 || k == 2 || k == 3 }

// slowAdd is the error by the chapter's sentence, where those names are there.
func slowAdd(names []string, e api.Entry) error {
	if e.Name == "" {
		return api.ErrNoEnt
	}
	if len(e.Name) > 24 {
		return api.ErrLong
	}
	for i := 0; i < len(e.Name); i++ {
		if e.Name[i] == '/' || e.Name[i] == 0 {
			return api.ErrInval
		}
	}
	if e.Name == "." || e.Name == ".." {
		return api.ErrInval
	}
	if !nodeMay(e.Node) || !kindMay(e.Kind) {
		return api.ErrRange
	}
	for _, s := range names {
		if s == e.Name {
			return api.ErrExist
		}
	}
	return nil
}

// ahead tells byte by byte whether a stands ahead of b.
func ahead(a, b string) bool {
	for i := 0; i < len(a) && i < len(b); i++ {
		if a[i] != b[i] {
			return a[i] < b[i]
		}
	}
	return len(a) < len(b)
}

// slow is a directory in no order: each call goes over all of it.
type slow []api.Entry

func (l slow) at(s string) int {
	for i, e := range l {
		if e.Name == s {
			return i
		}
	}
	return -1
}

func (l slow) names() []string {
	var out []string
	for _, e := range l {
		out = append(out, e.Name)
	}
	return out
}

// behind is what stands behind that name, the least first.
func (l slow) behind(after string) []api.Entry {
	var out []api.Entry
	for _, e := range l {
		if !ahead(after, e.Name) {
			continue
		}
		i := 0
		for i < len(out) && ahead(out[i].Name, e.Name) {
			i++
		}
		out = slices.Insert(out, i, e)
	}
	return out
}

func (l slow) from(after string, n int) ([]api.Entry, bool) {
	rest := l.behind(after)
	var out []api.Entry
	for len(rest) > 0 && len(out) < n {
		out, rest = append(out, rest[0]), rest[1:]
	}
	return out, len(rest) > 0
}

// with is a directory to which those were added, one by one.
func with(t *testing.T, l ...api.Entry) *Dir {
	t.Helper()
	d := new(Dir)
	for _, e := range l {
		wantAdd(t, d, e, nil)
	}
	return d
}

// named are entries of those names, each another Node.
func named(names ...string) []api.Entry {
	var out []api.Entry
	for i, s := range names {
		out = append(out, entry(s, i+1, i%3+1))
	}
	return out
}

func wantAdd(t *testing.T, d *Dir, e api.Entry, want error) {
	t.Helper()
	if err := d.Add(e); err != want {
		t.Errorf("Add(%v): %v, not %v", e, err, want)
	}
}

func wantEntries(t *testing.T, what string, got, want []api.Entry) {
	t.Helper()
	if !slices.Equal(got, want) {
		t.Errorf("%s: %v, not %v", what, got, want)
	}
}

// wantDir holds all that d tells against those entries, which may be in any order.
func wantDir(t *testing.T, d *Dir, want ...api.Entry) {
	t.Helper()
	wantEntries(t, "All", d.All(), slow(want).behind(""))
	if d.Len() != len(want) {
		t.Errorf("Len: %d, not %d", d.Len(), len(want))
	}
	for _, e := range want {
		if got, is := d.Get(e.Name); got != e || !is {
			t.Errorf("Get(%q): %v, %v, not %v", e.Name, got, is, e)
		}
	}
}

func wantFrom(t *testing.T, d *Dir, after string, n int, want []api.Entry, more bool) {
	t.Helper()
	got, is := d.From(after, n)
	if !slices.Equal(got, want) || is != more {
		t.Errorf("From(%q, %d): %v, %v, not %v, %v", after, n, got, is, want, more)
	}
}

// P14.1: the chapter's example, and one of each error and of none.
func TestAdd(t *testing.T) {
	var d Dir
	wantAdd(t, &d, entry(".", 1, api.File), api.ErrInval)
	wantAdd(t, &d, entry("..", 1, api.File), api.ErrInval)
	wantAdd(t, &d, entry("", 1, api.File), api.ErrNoEnt)
	wantAdd(t, &d, entry(long+"5", 1, api.File), api.ErrLong)
	wantAdd(t, &d, entry("a/b", 1, api.File), api.ErrInval)
	wantAdd(t, &d, entry("a\x00b", 1, api.File), api.ErrInval)
	wantAdd(t, &d, entry("a", 0, api.File), api.ErrRange)
	wantAdd(t, &d, entry("a", 1, 0), api.ErrRange)
	wantDir(t, &d)
	wantAdd(t, &d, entry("a", 1, api.File), nil)
	wantAdd(t, &d, entry("a", 1, api.File), api.ErrExist)
	wantDir(t, &d, entry("a", 1, api.File))
}

// P14.1: each text that may be a name, and each that may not, at once and among all others; what has an error changes nothing.
func TestAddNames(t *testing.T) {
	all := named(good()...)
	full := with(t, all...)
	wantDir(t, full, all...)
	for _, s := range append(good(), bad()...) {
		var d Dir
		e := entry(s, 7, api.Link)
		want := slowAdd(nil, e)
		wantAdd(t, &d, e, want)
		if want == nil {
			wantDir(t, &d, e)
		} else {
			wantDir(t, &d)
		}
		wantAdd(t, full, e, slowAdd(good(), e))
	}
	wantDir(t, full, all...)
}

// P14.1: each Node with each Kind: 1 to 2^24 - 1, and File, Dir or Link.
func TestAddNodeAndKind(t *testing.T) {
	for _, n := range numbers() {
		for _, k := range kinds() {
			var d Dir
			if nodeMay(n) && kindMay(k) {
				wantAdd(t, &d, entry("a", n, k), nil)
				wantDir(t, &d, entry("a", n, k))
			} else {
				wantAdd(t, &d, entry("a", n, k), api.ErrRange)
				wantDir(t, &d)
			}
		}
	}
}

// P14.1: one Node may have many names.
func TestAddSameNode(t *testing.T) {
	l := []api.Entry{entry("b", 5, api.File), entry("a", 5, api.File), entry("c", 5, api.Dir)}
	wantDir(t, with(t, l...), l...)
}

// P14.1 with P0.2: name's errors, then ErrInval, ErrRange, ErrExist.
func TestAddFirstError(t *testing.T) {
	d := with(t, entry("a", 1, api.File))
	for _, s := range append(bad(), "a", "b") {
		for _, n := range numbers() {
			for _, k := range kinds() {
				if e := entry(s, n, k); s != "b" || slowAdd([]string{"a"}, e) != nil {
					wantAdd(t, d, e, slowAdd([]string{"a"}, e))
				}
			}
		}
	}
	wantDir(t, d, entry("a", 1, api.File))
}

// P14.1: an empty directory has nothing, whatever it is asked for.
func TestEmpty(t *testing.T) {
	for _, s := range append(good(), bad()...) {
		var d Dir
		if e, is := d.Get(s); is || e != (api.Entry{}) {
			t.Errorf("Get(%q): %v, %v", s, e, is)
		}
		if e, is := d.Del(s); is || e != (api.Entry{}) {
			t.Errorf("Del(%q): %v, %v", s, e, is)
		}
		if d.Set(s, entry(s, 1, api.File)) {
			t.Errorf("Set(%q)", s)
		}
		for _, n := range []int{math.MinInt, -1, 0, 1, 2, math.MaxInt} {
			wantFrom(t, &d, s, n, nil, false)
			wantFrom(t, d.Clone(), s, n, nil, false)
		}
		wantDir(t, &d)
		wantDir(t, d.Clone())
	}
}

// P14.1 with P0.3: of a name that is not there Get and Del tell an empty entry, and nothing is changed.
func TestNoSuchName(t *testing.T) {
	all := named(good()...)
	d := with(t, all...)
	for _, s := range append(bad(), "c", "a\x02", "aaaa", "\xfe", "\xff\x02", "\xff\xff\xff", long[:22], "..b", "AA", "z", "0", "\u00fd") {
		if e, is := d.Get(s); is || e != (api.Entry{}) {
			t.Errorf("Get(%q): %v, %v", s, e, is)
		}
		if e, is := d.Del(s); is || e != (api.Entry{}) {
			t.Errorf("Del(%q): %v, %v", s, e, is)
		}
		if d.Set(s, entry("a", 9, api.Dir)) {
			t.Errorf("Set(%q)", s)
		}
	}
	wantDir(t, d, all...)
}

// P14.1: Del tells what was there; then it is gone, and may be added anew.
func TestDel(t *testing.T) {
	all := named(good()...)
	for i, e := range all {
		d := with(t, all...)
		if got, is := d.Del(e.Name); got != e || !is {
			t.Errorf("Del(%q): %v, %v", e.Name, got, is)
		}
		rest := slices.Delete(slices.Clone(all), i, i+1)
		wantDir(t, d, rest...)
		if got, is := d.Del(e.Name); got != (api.Entry{}) || is {
			t.Errorf("Del(%q) again: %v, %v", e.Name, got, is)
		}
		if got, is := d.Get(e.Name); got != (api.Entry{}) || is {
			t.Errorf("Get(%q) of what is gone: %v, %v", e.Name, got, is)
		}
		other := entry(e.Name, most, api.Link)
		if d.Set(e.Name, other) {
			t.Errorf("Set(%q) of what is gone", e.Name)
		}
		wantAdd(t, d, other, nil)
		wantDir(t, d, append(rest, other)...)
	}
	d := with(t, all...)
	for i, e := range all {
		d.Del(e.Name)
		wantDir(t, d, all[i+1:]...)
	}
}

// P14.1: Set changes Node and Kind, if they may be; the name stays what it was, whatever e's is.
func TestSet(t *testing.T) {
	was := []api.Entry{entry("b", 2, api.Dir), entry("a", 1, api.File), entry("c", 3, api.Link)}
	for i, e := range was {
		for _, s := range []string{"", "a", "b", "c", "d", ".", "a/", long + "5"} {
			for _, n := range numbers() {
				for _, k := range kinds() {
					d := with(t, was...)
					want := slices.Clone(was)
					may := nodeMay(n) && kindMay(k)
					if may {
						want[i].Node, want[i].Kind = n, k
					}
					if got := d.Set(e.Name, entry(s, n, k)); got != may {
						t.Errorf("Set(%q, {%q %d %d}): %v", e.Name, s, n, k, got)
					}
					wantDir(t, d, want...)
				}
			}
		}
	}
}

// P14.1: All is by names, byte by byte, in whatever order they were added.
func TestAllInOrder(t *testing.T) {
	var d Dir
	for _, s := range []string{"b", "ab", "\xff", "a", "\u20ac", "B", "\U00010000", "10", "\x80", "2", "a\x01", "\uffff"} {
		wantAdd(t, &d, entry(s, 1, api.File), nil)
	}
	want := []string{"10", "2", "B", "a", "a\x01", "ab", "b", "\x80", "\u20ac", "\uffff", "\U00010000", "\xff"}
	if got := slow(d.All()).names(); !slices.Equal(got, want) {
		t.Errorf("All: %q, not %q", got, want)
	}
	r := rand.New(rand.NewSource(14))
	for range 200 {
		l := named(good()...)
		r.Shuffle(len(l), func(i, j int) { l[i], l[j] = l[j], l[i] })
		wantDir(t, with(t, l...), l...)
	}
}

// P14.1: the first n behind a name, which is not with them, and needn't be there; and whether there are more.
func TestFrom(t *testing.T) {
	l := []api.Entry{entry("a", 1, api.File), entry("ab", 2, api.Dir), entry("b", 3, api.Link)}
	d := with(t, l...)
	for _, c := range []struct {
		after string
		n     int
		want  []api.Entry
		more  bool
	}{
		{"", 4, l, false}, {"", 3, l, false}, {"", 2, l[:2], true}, {"", 1, l[:1], true}, {"", 0, nil, true}, {"", -1, nil, true},
		{"a", 3, l[1:], false}, {"a", 2, l[1:], false}, {"a", 1, l[1:2], true}, {"a", 0, nil, true}, {"a", -1, nil, true},
		{"aa", 2, l[1:], false}, {"a\x01", 1, l[1:2], true}, {"aaaaa", 0, nil, true},
		{"ab", 2, l[2:], false}, {"ab", 1, l[2:], false}, {"ab", 0, nil, true}, {"ab", -7, nil, true},
		{"b", 1, nil, false}, {"b", 0, nil, false}, {"b", -1, nil, false}, {"b", math.MinInt, nil, false},
		{"c", 9, nil, false}, {"\xff", 0, nil, false}, {"", math.MaxInt, l, false}, {"a", math.MaxInt, l[1:], false},
		{"", math.MinInt, nil, true}, {"", 1 << 32, l, false}, {"", -1 << 32, nil, true},
	} {
		wantFrom(t, d, c.after, c.n, c.want, c.more)
	}
	wantDir(t, d, l...)
}

// P14.1: behind each text, also such as no entry has, each count.
func TestFromEach(t *testing.T) {
	all := named(good()...)
	d := with(t, all...)
	for _, after := range append(append(good(), bad()...), "c", "\x00\x00", "/\xff", "aaaa", "\xff\xff\xff", long[:24]+"\x00", strings.Repeat("\xff", 300)) {
		for n := -3; n < len(all)+3; n++ {
			want, more := slow(all).from(after, n)
			wantFrom(t, d, after, n, want, more)
		}
	}
}

// P14.1: step by step all are told, each once, also where what was told last is gone meanwhile.
func TestFromStepByStep(t *testing.T) {
	all := named(good()...)
	for n := 1; n <= len(all)+1; n++ {
		for _, gone := range []bool{false, true} {
			d := with(t, all...)
			var got []api.Entry
			after, more := "", true
			for round := 0; more && round < len(all); round++ {
				var l []api.Entry
				if l, more = d.From(after, n); len(l) > 0 {
					after = l[len(l)-1].Name
				}
				got = append(got, l...)
				if gone {
					d.Del(after)
				}
			}
			wantEntries(t, fmt.Sprintf("by steps of %d", n), got, slow(all).behind(""))
		}
	}
}

// P14.1: a clone is as the directory is now; what is done to one of them the other one doesn't show.
func TestClone(t *testing.T) {
	for n := range 20 {
		was := named(good()[:n]...)
		for _, turned := range []bool{false, true} {
			d := with(t, was...)
			c := d.Clone()
			wantDir(t, c, was...)
			one, other := d, c
			if turned {
				one, other = c, d
			}
			wantAdd(t, one, entry("zz", 1, api.File), nil)
			wantAdd(t, one, entry("!", 2, api.File), nil)
			wantDir(t, other, was...)
			wantAdd(t, other, entry("zy", 3, api.File), nil)
			wantDir(t, one, append(slices.Clone(was), entry("zz", 1, api.File), entry("!", 2, api.File))...)
			for _, e := range was {
				one.Set(e.Name, entry("", most, api.Link))
			}
			wantDir(t, other, append(slices.Clone(was), entry("zy", 3, api.File))...)
			for _, e := range one.All() {
				one.Del(e.Name)
			}
			wantDir(t, other, append(slices.Clone(was), entry("zy", 3, api.File))...)
			wantDir(t, one)
		}
	}
}

// spoil writes over all of l, its spare room too.
func spoil(l []api.Entry) {
	l = l[:cap(l)]
	for i := range l {
		l[i] = entry("spoilt", -1, -1)
	}
}

// P14.1 with P0.4: each list is new memory, and none is the directory's.
func TestNewMemory(t *testing.T) {
	for n := range 20 {
		was := named(good()[:n]...)
		d := with(t, was...)
		if n%2 == 1 { // so that there is room behind what is left
			d.Del(was[n-1].Name)
			was = was[:n-1]
		}
		sorted := slow(was).behind("")
		all, again := d.All(), d.All()
		for k := range len(was) + 2 {
			part, _ := d.From("", k)
			whole := d.Clone()
			spoil(part)
			_ = append(part[:0], entry("spoilt", -1, -1))
			_ = append(part, entry("spoilt", -1, -1))
			wantDir(t, d, was...)
			wantDir(t, whole, was...)
			wantEntries(t, "an earlier All", again, sorted)
		}
		_ = append(all, entry("spoilt", -1, -1))
		spoil(all)
		wantDir(t, d, was...)
		wantEntries(t, "another All", again, sorted)
		for _, e := range was {
			d.Set(e.Name, entry("", most, api.Link))
		}
		d.Add(entry("zz", 1, api.File))
		d.Del("a")
		wantEntries(t, "All of before", again, sorted)
	}
}

// P14.1: scripts of calls, held against a directory in no order.
func TestScripts(t *testing.T) {
	for seed := range 300 {
		script := make([]byte, 400)
		rand.New(rand.NewSource(int64(seed))).Read(script)
		runScript(t, script)
	}
}

// few are so few names that most calls meet one that is there.
func few() []string {
	return []string{"a", "b", "ab", "a\x01", "B", "\xff", "\u20ac", long, "..a", "", ".", "a/", long + "5"}
}

// runScript does a call for each four bytes, and the same to a slow directory.
func runScript(t *testing.T, script []byte) {
	t.Helper()
	d, l := new(Dir), slow(nil)
	for ; len(script) >= 4; script = script[4:] {
		s := few()[int(script[1])%len(few())]
		e := entry(s, int(script[2])-3, int(script[3])%5)
		at := l.at(s)
		switch script[0] % 5 {
		case 0, 1:
			want := slowAdd(l.names(), e)
			wantAdd(t, d, e, want)
			if want == nil {
				l = append(l, e)
			}
		case 2:
			got, is := d.Del(s)
			if at < 0 && (is || got != (api.Entry{})) || at >= 0 && (!is || got != l[at]) {
				t.Errorf("Del(%q): %v, %v", s, got, is)
			}
			if at >= 0 {
				l = slices.Delete(l, at, at+1)
			}
		case 3:
			e.Name = "other"
			may := at >= 0 && nodeMay(e.Node) && kindMay(e.Kind)
			if got := d.Set(s, e); got != may {
				t.Errorf("Set(%q, %v): %v", s, e, got)
			}
			if may {
				l[at].Node, l[at].Kind = e.Node, e.Kind
			}
		case 4:
			n := int(script[2])%12 - 2
			want, more := l.from(s, n)
			wantFrom(t, d, s, n, want, more)
			if script[3]%2 == 0 {
				old := d
				d = d.Clone()
				old.Del("a")
			}
		}
		wantDir(t, d, l...)
	}
}

// P0.1: many entries, from either end, and great texts that are no names.
func TestGreat(t *testing.T) {
	const n = 1 << 14
	var up, down Dir
	for i := range n {
		up.Add(entry(fmt.Sprintf("%06d", i), i+1, api.File))
		down.Add(entry(fmt.Sprintf("%06d", n-1-i), n-i, api.File))
	}
	all := up.All()
	if len(all) != n || !slices.Equal(all, down.All()) || all[9] != entry("000009", 10, api.File) {
		t.Fatal(len(all), up.Len(), down.Len())
	}
	if l, more := up.From("000099", 10); len(l) != 10 || l[0].Name != "000100" || !more {
		t.Fatal(l, more)
	}
	great := strings.Repeat("1", 1<<20)
	wantAdd(t, &up, entry(great, 1, api.File), api.ErrLong)
	if _, is := up.Get(great); is || up.Len() != n {
		t.Fatal("a great text is there")
	}
	if l, more := up.From(great, 1); len(l) != 0 || more {
		t.Fatal(l, more)
	}
}

// FuzzDirs does any script, then asks for any name.
func FuzzDirs(f *testing.F) {
	f.Add([]byte("0a01"), "a", 1, 1, 1)
	f.Add([]byte{0, 0, 9, 1, 0, 1, 9, 2, 3, 0, 8, 3, 4, 0, 4, 0, 2, 1, 0, 0}, "\xff", most, 3, -1)
	f.Add([]byte{}, "..", 0, 0, 0)
	f.Fuzz(func(t *testing.T, script []byte, s string, node, kind, n int) {
		runScript(t, script[:min(len(script), 2000)])
		all := named(few()[:9]...)
		d := with(t, all...)
		want, more := slow(all).from(s, n)
		wantFrom(t, d, s, n, want, more)
		e := entry(s, node, kind)
		err := slowAdd(slow(all).names(), e)
		wantAdd(t, d, e, err)
		if err == nil {
			all = append(all, e)
		}
		wantDir(t, d, all...)
	})
}
