package name

import (
	"fmt"
	"math/rand"
	"slices"
	"strings"
	"testing"

	"breviary/api"
)

// long is a name of just as many bytes as may be.
const long = "123456789012345678901234"

// texts are names and others, among them some that order by runes, by length or by letters would set elsewhere.
func texts() []string {
	return []string{"", "\x00", "\x00\x00", "\x01", " ", "-", ".", "..", "...", "/", "//", "10", "2", "A", "B", "a", "a\x00", "a b", "aa", "aaa", "ab", "b", "ba", "\x7f", "\x80", "\xc3", "\u00fc", "\u20ac", "\uffff", "\U00010000", "\xff", "\xff\x00", "\xff\xff", long[:23], long, long + "5"}
}

// someTexts are n short texts of few letters, so that there are equal ones.
func someTexts(r *rand.Rand, n int) []string {
	out := make([]string, n)
	for i := range out {
		b := make([]byte, r.Intn(4))
		for j := range b {
			b[j] = "\x00/.ab\x80\xff"[r.Intn(7)]
		}
		out[i] = string(b)
	}
	return out
}

// ahead tells byte by byte whether a stands ahead of b.
func ahead(a, b string) bool {
	for i := 0; i < len(a) && i < len(b); i++ {
		if a[i] != b[i] {
			return a[i] < b[i]
		}
	}
	return len(a) < len(b)
}

// slowSort sets each of l in its place, if it isn't there.
func slowSort(l []string) []string {
	var out []string
	for _, x := range l {
		i := 0
		for i < len(out) && ahead(out[i], x) {
			i++
		}
		if i == len(out) || out[i] != x {
			out = slices.Insert(out, i, x)
		}
	}
	return out
}

// slowAfter leaves out the first of l, as long as they don't stand behind s.
func slowAfter(l []string, s string) []string {
	for len(l) > 0 && !ahead(s, l[0]) {
		l = l[1:]
	}
	return l
}

// slowValid goes by the chapter's sentence, byte by byte.
func slowValid(s string) error {
	if len(s) == 0 {
		return api.ErrNoEnt
	}
	if len(s) > 24 {
		return api.ErrLong
	}
	for i := 0; i < len(s); i++ {
		if s[i] == '/' || s[i] == 0 {
			return api.ErrInval
		}
	}
	return nil
}

func wantValid(t *testing.T, s string, want error) {
	t.Helper()
	if err := Valid(s); err != want {
		t.Errorf("Valid(%q): %v, not %v", s, err, want)
	}
}

func wantList(t *testing.T, what string, got, want []string) {
	t.Helper()
	if !slices.Equal(got, want) {
		t.Errorf("%s: %q, not %q", what, got, want)
	}
}

// P11.1: the chapter's example, and one of each error and of none.
func TestValid(t *testing.T) {
	wantValid(t, "a/b", api.ErrInval)
	wantValid(t, "a\x00b", api.ErrInval)
	wantValid(t, "", api.ErrNoEnt)
	wantValid(t, long+"5", api.ErrLong)
	for _, s := range []string{"a", ".", "..", "...", " ", "\n", "\\", "a b", "\u00fc\u20ac", "\x80", "\xff\xfe", long} {
		wantValid(t, s, nil)
	}
}

// P11.1: each byte at each place of names of each length: just a slash and a 0 may not be.
func TestValidEachByte(t *testing.T) {
	for size := 1; size <= api.MaxName; size++ {
		for at := range size {
			for c := range 256 {
				for _, fill := range []byte{'a', 0xff} {
					b := slices.Repeat([]byte{fill}, size)
					b[at] = byte(c)
					var want error
					if c == '/' || c == 0 {
						want = api.ErrInval
					}
					wantValid(t, string(b), want)
				}
			}
		}
	}
}

// P11.1: the length counts bytes, not runes.
func TestValidLength(t *testing.T) {
	for _, n := range []int{1, 2, 23, 24, 25, 26, 255, 256, 257, 256 + 24, 65536, 65536 + 24, 1 << 20} {
		var want error
		if n > 24 {
			want = api.ErrLong
		}
		for _, unit := range []string{"x", ".", "\x01", "\xff"} {
			wantValid(t, strings.Repeat(unit, n), want)
		}
	}
	wantValid(t, strings.Repeat("\u00fc", 12), nil)
	wantValid(t, strings.Repeat("\u00fc", 13), api.ErrLong)
	wantValid(t, strings.Repeat("\u20ac", 8), nil)
	wantValid(t, strings.Repeat("\u20ac", 9), api.ErrLong)
	wantValid(t, strings.Repeat("\U00010000", 6), nil)
	wantValid(t, strings.Repeat("\U00010000", 7), api.ErrLong)
}

// P11.1 with P0.2: what is too long is ErrLong, whatever bytes it has.
func TestValidLongAheadOfInval(t *testing.T) {
	for _, unit := range []string{"/", "\x00"} {
		wantValid(t, strings.Repeat(unit, 24), api.ErrInval)
		wantValid(t, strings.Repeat(unit, 25), api.ErrLong)
		wantValid(t, unit+long[1:], api.ErrInval)
		wantValid(t, long[1:]+unit, api.ErrInval)
		wantValid(t, unit+long, api.ErrLong)
		wantValid(t, long+unit, api.ErrLong)
	}
}

// P11.1: what lies behind a text's end in its memory is no byte of it.
func TestValidBehindEnd(t *testing.T) {
	whole := long + "/\x00"
	for size := 1; size <= len(long); size++ {
		wantValid(t, whole[:size], nil)
	}
	wantValid(t, whole[24:], api.ErrInval)
	wantValid(t, whole[25:], api.ErrInval)
	wantValid(t, whole[26:], api.ErrNoEnt)
}

// P11.1: nothing but one dot and two; both are names otherwise.
func TestSpecial(t *testing.T) {
	for _, s := range append(texts(), "....", " .", ". ", "./", "/.", "..\x00", ".\x00", "\x00.", ".a", "a.", "..a", "a..", "\u2024", "\u2025", "\xae", strings.Repeat(".", 24), strings.Repeat(".", 258)) {
		want := s == "." || s == ".."
		if got := Special(s); got != want {
			t.Errorf("Special(%q): %v", s, got)
		}
	}
	for c := range 256 {
		one, other, third := string([]byte{byte(c)}), string([]byte{'.', byte(c)}), string([]byte{byte(c), '.'})
		if got := Special(one); got != (c == '.') {
			t.Errorf("Special(%q): %v", one, got)
		}
		if Special(other) != (c == '.') || Special(third) != (c == '.') {
			t.Errorf("Special of %q, or of %q", other, third)
		}
	}
}

// P11.1: byte by byte, each once; also what may not be a name.
func TestSort(t *testing.T) {
	for _, c := range []struct{ l, want []string }{
		{nil, nil},
		{[]string{}, nil},
		{[]string{""}, []string{""}},
		{[]string{"", ""}, []string{""}},
		{[]string{"a"}, []string{"a"}},
		{[]string{"a", "a", "a"}, []string{"a"}},
		{[]string{"b", "a"}, []string{"a", "b"}},
		{[]string{"b", "a", "b", "a"}, []string{"a", "b"}},
		{[]string{"b", "ab", "a", "", "B"}, []string{"", "B", "a", "ab", "b"}},
		{[]string{"2", "10", "1"}, []string{"1", "10", "2"}},
		{[]string{"a", "A", "a"}, []string{"A", "a"}},
		{[]string{"a\x00", "a", "a\x00"}, []string{"a", "a\x00"}},
		{[]string{"\xff", "\U00010000", "\uffff", "\x80", "z"}, []string{"z", "\x80", "\uffff", "\U00010000", "\xff"}},
		{[]string{"..", "a/b", ".", long + "5", long}, []string{".", "..", long, long + "5", "a/b"}},
	} {
		wantList(t, fmt.Sprintf("Sort of %q", c.l), Sort(c.l...), c.want)
	}
	wantList(t, "Sort of three", Sort("c", "a", "b"), []string{"a", "b", "c"})
	wantList(t, "Sort of none", Sort(), nil)
}

// P11.1: each order, and lists of each length, held against texts set in one by one.
func TestSortAnyOrder(t *testing.T) {
	r := rand.New(rand.NewSource(11))
	for n := range 300 {
		l := someTexts(r, n)
		if n%2 == 0 {
			l = append(l, texts()...)
			r.Shuffle(len(l), func(i, j int) { l[i], l[j] = l[j], l[i] })
		}
		want := slowSort(l)
		wantList(t, fmt.Sprintf("Sort of %q", l), Sort(l...), want)
		wantList(t, "Sort of what is sorted", Sort(want...), want)
		slices.Reverse(want)
		wantList(t, "Sort of what is the other way round", Sort(want...), slowSort(l))
	}
}

// P11.1: those behind s; s itself is none of them, and needn't be there.
func TestAfter(t *testing.T) {
	l := []string{"a", "ab", "b", "\xff"}
	for _, c := range []struct {
		s    string
		want []string
	}{
		{"", l}, {"\x00", l}, {"A", l}, {"a", l[1:]}, {"a\x00", l[1:]}, {"aa", l[1:]}, {"ab", l[2:]}, {"ab\x00", l[2:]}, {"abc", l[2:]}, {"b", l[3:]}, {"z", l[3:]}, {"\x80", l[3:]}, {"\u00fc", l[3:]}, {"\xff", nil}, {"\xff\x00", nil}, {"\xff\xff", nil},
	} {
		wantList(t, fmt.Sprintf("After(%q, %q)", l, c.s), After(l, c.s), c.want)
	}
	for _, s := range texts() {
		wantList(t, "After of none", After(nil, s), nil)
		wantList(t, "After of an empty list", After([]string{}, s), nil)
	}
	wantList(t, "the empty one too is behind none", After([]string{"", "a"}, ""), []string{"a"})
}

// P11.1: sorted lists, with equal ones too, and each text that is there, and some that aren't.
func TestAfterEach(t *testing.T) {
	r := rand.New(rand.NewSource(12))
	for n := range 120 {
		l := someTexts(r, n)
		slices.SortFunc(l, func(a, b string) int {
			switch {
			case ahead(a, b):
				return -1
			case ahead(b, a):
				return 1
			}
			return 0
		})
		once := Sort(l...)
		for _, s := range slices.Concat(once, texts(), someTexts(r, 5)) {
			wantList(t, fmt.Sprintf("After(%q, %q)", l, s), After(l, s), slowAfter(l, s))
			wantList(t, fmt.Sprintf("After(%q, %q)", once, s), After(once, s), slowAfter(once, s))
		}
	}
}

// P11.1: from one to the next, a list is gone through to its end, each once.
func TestAfterStepByStep(t *testing.T) {
	all := Sort(texts()...)[1:] // the first is the empty one, from which the way begins
	var got []string
	for rest := After(all, ""); len(rest) > 0 && len(got) <= len(all); rest = After(all, rest[0]) {
		got = append(got, rest[0])
	}
	wantList(t, "step by step", got, all)
}

// P11.1 with P0.4: what is handed in stays, and behind its length too.
func TestHandedInStays(t *testing.T) {
	for n := range 8 {
		whole := []string{"b", "a", "b", "c", "a", "", "d", "c", "y", "x"}
		was := slices.Clone(whole)
		Sort(whole[:n]...)
		wantList(t, "Sort changed", whole, was)
		slices.Sort(whole[:n])
		was = slices.Clone(whole)
		got := After(whole[:n], "a")
		wantList(t, "After changed", whole, was)
		wantList(t, "After of a part", got, slowAfter(was[:n], "a"))
	}
}

// spoil writes over all of l, its spare room too.
func spoil(l []string) {
	l = l[:cap(l)]
	for i := range l {
		l[i] = "spoilt"
	}
}

// P11.1 with P0.4: each list is new memory, and none is kept.
func TestNewMemory(t *testing.T) {
	l := []string{"a", "b", "c", "d", "e"}
	for n := range len(l) + 1 {
		handed := slices.Clone(l)
		sorted, other := Sort(handed[:n]...), Sort(handed[:n]...)
		spoil(sorted)
		wantList(t, "handed to Sort", handed, l)
		wantList(t, "another Sort", other, l[:n])
		spoil(handed)
		wantList(t, "what Sort answered", other, l[:n])

		handed = slices.Clone(l)
		for _, s := range []string{"", "a", "c", "e"} {
			behind, again := After(handed[:n], s), After(handed[:n], s)
			spoil(behind)
			_ = append(behind, "spoilt")
			wantList(t, "handed to After", handed, l)
			wantList(t, "another After", again, slowAfter(l[:n], s))
			gone := slices.Clone(handed)
			again = After(gone[:n], s)
			spoil(gone)
			wantList(t, "what After answered", again, slowAfter(l[:n], s))
		}
	}
}

// P0.1: long lists and texts end too.
func TestGreat(t *testing.T) {
	const n = 1 << 18
	l := make([]string, n)
	for i := range l {
		l[i] = fmt.Sprintf("%06d", (i*7919)%(n/2))
	}
	got := Sort(l...)
	if len(got) != n/2 || got[0] != "000000" || got[n/2-1] != fmt.Sprintf("%06d", n/2-1) {
		t.Fatal(len(got), got[0], got[len(got)-1])
	}
	if rest := After(got, got[99]); len(rest) != n/2-100 || rest[0] != "000100" {
		t.Fatal(len(rest))
	}
	great := strings.Repeat("a", 1<<20)
	wantList(t, "great texts", Sort(great+"b", great, great+"a", great), []string{great, great + "a", great + "b"})
	wantList(t, "behind a great text", After([]string{great, great + "a"}, great), []string{great + "a"})
}

// FuzzNames holds any texts against the chapter's sentences.
func FuzzNames(f *testing.F) {
	f.Add("a/b", "a")
	f.Add("", "..")
	f.Add("b,a,b,,\xff", "a\x00")
	f.Add(long+"5", long)
	f.Fuzz(func(t *testing.T, some, s string) {
		l := strings.Split(some, ",")
		for _, x := range append(l, some, s) {
			wantValid(t, x, slowValid(x))
			if got := Special(x); got != (x == "." || x == "..") {
				t.Errorf("Special(%q): %v", x, got)
			}
		}
		sorted := Sort(l...)
		wantList(t, fmt.Sprintf("Sort of %q", l), sorted, slowSort(l))
		wantList(t, fmt.Sprintf("After(%q, %q)", sorted, s), After(sorted, s), slowAfter(sorted, s))
	})
}
