package path

import (
	"fmt"
	"math/rand"
	"slices"
	"strings"
	"testing"

	"breviary/api"
)

// long is a part of just as many bytes as may be.
const long = "123456789012345678901234"

// slowParse goes by the chapter's sentence, byte by byte.
func slowParse(s string) (Path, error) {
	if len(s) == 0 {
		return Path{}, api.ErrNoEnt
	}
	if len(s) > 256 {
		return Path{}, api.ErrLong
	}
	if s[0] != '/' {
		return Path{}, api.ErrInval
	}
	for i := 0; i < len(s); i++ {
		if s[i] == 0 {
			return Path{}, api.ErrInval
		}
	}
	var p Path
	var part []byte
	for i := 1; i <= len(s); i++ {
		if i < len(s) && s[i] != '/' {
			part = append(part, s[i])
			continue
		}
		if len(part) > 24 {
			return Path{}, api.ErrLong
		}
		if text := string(part); text != "" && text != "." {
			p.Parts = append(p.Parts, text)
		}
		part = nil
	}
	p.Slash = len(p.Parts) > 0 && s[len(s)-1] == '/'
	return p, nil
}

// slowJoin is a, and `/` and each.
func slowJoin(a string, parts []string) string {
	for _, x := range parts {
		a = a + "/" + x
	}
	return a
}

func same(p, q Path) bool { return slices.Equal(p.Parts, q.Parts) && p.Slash == q.Slash }

func path(slash bool, parts ...string) Path { return Path{Parts: parts, Slash: slash} }

func show(p Path) string { return fmt.Sprintf("%q %v", p.Parts, p.Slash) }

func clone(p Path) Path { return Path{Parts: slices.Clone(p.Parts), Slash: p.Slash} }

func wantPath(t *testing.T, s string, want Path) {
	t.Helper()
	if p, err := Parse(s); err != nil || !same(p, want) {
		t.Errorf("Parse(%q): %s %v, not %s", s, show(p), err, show(want))
	}
}

func wantNoPath(t *testing.T, s string, want error) {
	t.Helper()
	if p, err := Parse(s); err != want || len(p.Parts) > 0 || p.Slash {
		t.Errorf("Parse(%q): %s %v, not %v", s, show(p), err, want)
	}
}

// wantAsSlow holds Parse against slowParse.
func wantAsSlow(t *testing.T, s string) {
	t.Helper()
	want, err := slowParse(s)
	if err != nil {
		wantNoPath(t, s, err)
		return
	}
	wantPath(t, s, want)
}

func wantSplit(t *testing.T, p, ahead Path, last string) {
	t.Helper()
	if q, s, err := Split(p); err != nil || s != last || !same(q, ahead) {
		t.Errorf("Split of %s: %s %q %v, not %s %q", show(p), show(q), s, err, show(ahead), last)
	}
}

func wantNoSplit(t *testing.T, p Path) {
	t.Helper()
	if q, s, err := Split(p); err != api.ErrInval || s != "" || len(q.Parts) > 0 || q.Slash {
		t.Errorf("Split of %s: %s %q %v", show(p), show(q), s, err)
	}
}

func wantText(t *testing.T, what, got, want string) {
	t.Helper()
	if got != want {
		t.Errorf("%s: %q, not %q", what, got, want)
	}
}

// wholes are paths of each count of parts up to some, of parts that Parse answers.
func wholes() []Path {
	var out []Path
	parts := []string{"a", "..", "...", long, " ", "\xff", "\u00fc", "a"}
	for n := range len(parts) + 1 {
		out = append(out, path(false, parts[:n]...), path(false, parts[len(parts)-n:]...))
		if n > 0 {
			out = append(out, path(true, parts[:n]...), path(true, parts[len(parts)-n:]...))
		}
	}
	return out
}

// somePath is a text of a few parts, among them empty ones, dots, and some that are too long.
func somePath(r *rand.Rand) string {
	var b strings.Builder
	for range r.Intn(14) {
		b.WriteByte('/')
		switch r.Intn(8) {
		case 0:
		case 1:
			b.WriteString(".")
		case 2:
			b.WriteString("..")
		case 3:
			b.WriteString(strings.Repeat("x", 20+r.Intn(6)))
		default:
			for range r.Intn(5) {
				b.WriteByte("..ab \x80\xff"[r.Intn(7)])
			}
		}
	}
	if r.Intn(2) == 0 {
		b.WriteByte('/')
	}
	return b.String()
}

// P12.1: the chapter's example, and what is left out, and what stays.
func TestParse(t *testing.T) {
	for _, c := range []struct {
		s    string
		want Path
	}{
		{"//a/./b/", path(true, "a", "b")},
		{"/", Path{}},
		{"//", Path{}},
		{"/.", Path{}},
		{"/./", Path{}},
		{"/././/.//", Path{}},
		{"/a", path(false, "a")},
		{"/a/", path(true, "a")},
		{"/a//", path(true, "a")},
		{"/a/./", path(true, "a")},
		{"/a/.", path(false, "a")},
		{"/a//.", path(false, "a")},
		{"//a", path(false, "a")},
		{"/./a", path(false, "a")},
		{"/a/b", path(false, "a", "b")},
		{"/a//b", path(false, "a", "b")},
		{"/a/./b", path(false, "a", "b")},
		{"/b/a/b", path(false, "b", "a", "b")},
		{"/..", path(false, "..")},
		{"/../", path(true, "..")},
		{"/../..", path(false, "..", "..")},
		{"/a/..", path(false, "a", "..")},
		{"/a/../b/", path(true, "a", "..", "b")},
		{"/./../.", path(false, "..")},
		{"/...", path(false, "...")},
		{"/.a/a./..a/a../.a.", path(false, ".a", "a.", "..a", "a..", ".a.")},
		{"/ /  /", path(true, " ", "  ")},
		{"/ . /. / .", path(false, " . ", ". ", " .")},
		{"/a b\n/\\", path(false, "a b\n", "\\")},
		{"/\u00fc/\u20ac\U00010000", path(false, "\u00fc", "\u20ac\U00010000")},
		{"/\x80/\xff\xfe/\x01", path(false, "\x80", "\xff\xfe", "\x01")},
		{"/" + long + "/" + long, path(false, long, long)},
	} {
		wantPath(t, c.s, c.want)
	}
}

// P12.1: one of each error.
func TestParseWrong(t *testing.T) {
	wantNoPath(t, "", api.ErrNoEnt)
	wantNoPath(t, "/"+strings.Repeat("a/", 128), api.ErrLong)
	for _, s := range []string{"a", ".", "..", "a/b", "./a", " /a", "\\a", "\x00", "\x00/a", "/\x00", "/a\x00", "/a/\x00/b", "/a/b/\x00", "\u2215a", "\xafa"} {
		wantNoPath(t, s, api.ErrInval)
	}
	wantNoPath(t, "/"+long+"5", api.ErrLong)
	wantNoPath(t, "/a/"+long+"5/b", api.ErrLong)
}

// P12.1: the first byte is a slash, be the rest what it may.
func TestParseEachFirstByte(t *testing.T) {
	for c := range 256 {
		for _, rest := range []string{"", "/", "a", "/a", "a/b/", "//"} {
			s := string([]byte{byte(c)}) + rest
			if c != '/' {
				wantNoPath(t, s, api.ErrInval)
			}
			wantAsSlow(t, s)
		}
	}
}

// P12.1: each byte at each place behind the first: just a 0 may not be.
func TestParseEachByte(t *testing.T) {
	for _, s := range []string{"/", "/a", "/abc", "//a/./b/", "/a/../.b/cd", "/" + long[:23] + "/" + long} {
		for at := 1; at < len(s); at++ {
			for c := range 256 {
				b := []byte(s)
				b[at] = byte(c)
				if c == 0 {
					wantNoPath(t, string(b), api.ErrInval)
				}
				wantAsSlow(t, string(b))
			}
		}
	}
}

// P12.1: all texts of few bytes, of those that mean something and one that doesn't.
func TestParseEachShort(t *testing.T) {
	texts := []string{""}
	for range 8 {
		var longer []string
		for _, s := range texts {
			wantAsSlow(t, s)
			longer = append(longer, s+"/", s+".", s+"a")
			if len(s) < 5 {
				longer = append(longer, s+"\x00")
			}
		}
		texts = longer
	}
}

// P12.1: MaxPath counts all bytes, those of what is left out too; not runes.
func TestParseLength(t *testing.T) {
	for _, n := range []int{1, 2, 254, 255, 256, 257, 258, 512, 512 + 20, 65536, 65536 + 20, 1 << 20} {
		for _, unit := range []string{"/", "/a", "/.", "/..", "/" + long, "//./", "/\u00fc", "/\xff"} {
			s := strings.Repeat(unit, n/len(unit)+1)[:n]
			if n > 256 {
				wantNoPath(t, s, api.ErrLong)
			}
			wantAsSlow(t, s)
		}
	}
	wantPath(t, strings.Repeat("/", 256), Path{})
	wantPath(t, strings.Repeat("/", 254)+"a/", path(true, "a"))
	wantPath(t, strings.Repeat("/a", 128), Path{Parts: slices.Repeat([]string{"a"}, 128)})
	wantPath(t, strings.Repeat("/"+long, 10)+"/12345", Path{Parts: append(slices.Repeat([]string{long}, 10), "12345")})
	wantNoPath(t, strings.Repeat("/\u00fc", 86), api.ErrLong)
}

// P12.1: MaxName counts a part's bytes, not runes, wherever the part stands, whatever it is of.
func TestParsePartsLength(t *testing.T) {
	for n := 1; n <= 60; n++ {
		for _, unit := range []string{"a", ".", " ", "\xff", "\x01"} {
			part := strings.Repeat(unit, n)
			for _, s := range []string{"/" + part, "/" + part + "/", "//./" + part, "/a/" + part + "/b", "/" + long + "/" + part, "/../" + part + "/.."} {
				if n > 24 {
					wantNoPath(t, s, api.ErrLong)
				}
				wantAsSlow(t, s)
			}
		}
	}
	wantPath(t, "/"+strings.Repeat("\u00fc", 12), path(false, strings.Repeat("\u00fc", 12)))
	wantNoPath(t, "/"+strings.Repeat("\u00fc", 13), api.ErrLong)
	wantNoPath(t, "/"+strings.Repeat("\u20ac", 9), api.ErrLong)
	wantNoPath(t, "/"+strings.Repeat("x", 255), api.ErrLong)
}

// P12.1 with P0.2: the sentence's order, where several errors hold.
func TestParseErrorsOrder(t *testing.T) {
	wantNoPath(t, strings.Repeat("a", 256), api.ErrInval)
	wantNoPath(t, strings.Repeat("a", 257), api.ErrLong)
	wantNoPath(t, strings.Repeat("\x00", 256), api.ErrInval)
	wantNoPath(t, strings.Repeat("\x00", 257), api.ErrLong)
	wantNoPath(t, "/"+strings.Repeat("\x00", 255), api.ErrInval)
	wantNoPath(t, "/"+strings.Repeat("\x00", 256), api.ErrLong)
	wantNoPath(t, long+"5", api.ErrInval)
	wantNoPath(t, long+"5/a", api.ErrInval)
	wantNoPath(t, "/"+long+"5\x00", api.ErrInval)
	wantNoPath(t, "/\x00"+long, api.ErrInval)
	wantNoPath(t, "/"+long+"5/\x00", api.ErrInval)
	wantNoPath(t, "/"+long+"5/a/b\x00", api.ErrInval)
	wantNoPath(t, "/\x00/"+long+"5", api.ErrInval)
}

// P12.1: what lies behind a text's end in its memory is no byte of it.
func TestParseBehindEnd(t *testing.T) {
	whole := "/ab/\x00" + strings.Repeat("c", 300)
	wantNoPath(t, whole[:0], api.ErrNoEnt)
	wantPath(t, whole[:1], Path{})
	wantPath(t, whole[:2], path(false, "a"))
	wantPath(t, whole[:3], path(false, "ab"))
	wantPath(t, whole[:4], path(true, "ab"))
	wantNoPath(t, whole[:5], api.ErrInval)
	wantNoPath(t, whole[1:3], api.ErrInval)
}

// P12.1: many texts of many kinds of parts.
func TestParseAny(t *testing.T) {
	r := rand.New(rand.NewSource(12))
	for range 20000 {
		wantAsSlow(t, somePath(r))
	}
}

// P12.1: the parts with slashes between; also of what Parse never answers, as it stands.
func TestText(t *testing.T) {
	for _, c := range []struct {
		p    Path
		want string
	}{
		{Path{}, "/"},
		{Path{Parts: []string{}}, "/"},
		{Path{Slash: true}, "//"},
		{path(false, "a"), "/a"},
		{path(true, "a"), "/a/"},
		{path(false, "a", "b"), "/a/b"},
		{path(true, "a", "..", "b"), "/a/../b/"},
		{path(false, ".."), "/.."},
		{path(false, long, "\xff"), "/" + long + "/\xff"},
		{path(false, ""), "/"},
		{path(true, ""), "//"},
		{path(false, "", ".", ""), "//./"},
		{path(true, "a/b", "\x00", long+long), "/a/b/\x00/" + long + long + "/"},
		{path(false, "/"), "//"},
	} {
		wantText(t, "Text of "+show(c.p), Text(c.p), c.want)
	}
}

// P12.1: what Parse answers, Text tells so that Parse answers it again.
func TestTextAndBack(t *testing.T) {
	for _, p := range wholes() {
		wantPath(t, Text(p), p)
	}
	r := rand.New(rand.NewSource(13))
	for range 20000 {
		s := somePath(r)
		p, err := Parse(s)
		if err != nil {
			continue
		}
		text := Text(p)
		wantPath(t, text, p)
		if len(text) > len(s) {
			t.Errorf("of %q Text is %q", s, text)
		}
	}
}

// P12.1: what is ahead of the last part has no Slash, whether the path has one or not.
func TestSplit(t *testing.T) {
	for _, slash := range []bool{false, true} {
		wantSplit(t, path(slash, "a"), Path{}, "a")
		wantSplit(t, path(slash, "a", "b"), path(false, "a"), "b")
		wantSplit(t, path(slash, "a", "b", "c"), path(false, "a", "b"), "c")
		wantSplit(t, path(slash, "a", "a"), path(false, "a"), "a")
		wantSplit(t, path(slash, "..", "a"), path(false, ".."), "a")
		wantSplit(t, path(slash, "a", "..", "b"), path(false, "a", ".."), "b")
		wantSplit(t, path(slash, long, long), path(false, long), long)
		for _, last := range []string{"...", "..a", "a..", ".a", " ..", ".. ", "\xae\xae"} {
			wantSplit(t, path(slash, "a", last), path(false, "a"), last)
		}
		for _, never := range []string{"", ".", "/", "../", "a/b", "\x00", "..\x00", long + "5"} {
			wantSplit(t, path(slash, never, never), path(false, never), never)
		}
	}
}

// P12.1: no part, and a last one that is `..`, are ErrInval.
func TestSplitWrong(t *testing.T) {
	for _, slash := range []bool{false, true} {
		wantNoSplit(t, Path{Slash: slash})
		wantNoSplit(t, Path{Parts: []string{}, Slash: slash})
		wantNoSplit(t, Path{Parts: []string{"a", "b"}[:0], Slash: slash})
		wantNoSplit(t, path(slash, ".."))
		wantNoSplit(t, path(slash, "a", ".."))
		wantNoSplit(t, path(slash, "..", ".."))
		wantNoSplit(t, path(slash, "a", "b", string([]byte{'.', '.'})))
	}
}

// P12.1: part by part back to the root, and put together again.
func TestSplitStepByStep(t *testing.T) {
	for _, p := range wholes() {
		p = Path{Parts: slices.DeleteFunc(clone(p).Parts, func(s string) bool { return s == ".." }), Slash: p.Slash}
		var gone []string
		q := p
		for range len(p.Parts) {
			var last string
			var err error
			q, last, err = Split(q)
			if err != nil {
				t.Fatalf("Split in %s: %v", show(p), err)
			}
			gone = append(gone, last)
		}
		wantNoSplit(t, q)
		slices.Reverse(gone)
		wantText(t, "put together", Text(path(false, gone...)), Text(path(false, p.Parts...)))
	}
}

// P12.1: a, and a slash and each, as they stand: nothing is left out, nor put in.
func TestJoin(t *testing.T) {
	wantText(t, "Join of none", Join("q"), "q")
	wantText(t, "Join of one", Join("/x", "a"), "/x/a")
	wantText(t, "Join of three", Join("/x", "a", "", "b"), "/x/a//b")
	for _, c := range []struct {
		a     string
		parts []string
		want  string
	}{
		{"", nil, ""},
		{"", []string{}, ""},
		{"/", nil, "/"},
		{"", []string{""}, "/"},
		{"", []string{"a"}, "/a"},
		{"/", []string{"a"}, "//a"},
		{"/x/", []string{"a"}, "/x//a"},
		{"/x", []string{"/a"}, "/x//a"},
		{"/x", []string{"a/"}, "/x/a/"},
		{"/x", []string{"", ""}, "/x//"},
		{"/x", []string{".", ".."}, "/x/./.."},
		{"x", []string{"a", "a", "b"}, "x/a/a/b"},
		{"\x00", []string{"\xff", "\u00fc"}, "\x00/\xff/\u00fc"},
		{long + long, []string{long + long}, long + long + "/" + long + long},
	} {
		wantText(t, fmt.Sprintf("Join(%q, %q)", c.a, c.parts), Join(c.a, c.parts...), c.want)
		wantText(t, "slowly", slowJoin(c.a, c.parts), c.want)
	}
}

// P12.1: lists of each length, and a list without its first text.
func TestJoinEachLength(t *testing.T) {
	r := rand.New(rand.NewSource(14))
	for n := range 200 {
		l := make([]string, n)
		for i := range l {
			l[i] = somePath(r)
		}
		a := somePath(r)
		wantText(t, "Join", Join(a, l...), slowJoin(a, l))
		if n > 0 {
			wantText(t, "Join of the rest", Join(l[0], l[1:]...), slowJoin(l[0], l[1:]))
		}
	}
}

// P12.1: what was parsed is joined as Text has it.
func TestJoinAsText(t *testing.T) {
	for _, p := range wholes() {
		want := Text(path(false, p.Parts...))
		if len(p.Parts) > 0 {
			wantText(t, "Join", Join("", p.Parts...), want)
		}
		q, last, err := Split(p)
		if err == nil && len(q.Parts) > 0 {
			wantText(t, "Join of what was split", Join(Text(q), last), want)
		}
	}
}

// P12.1 with P0.4: what is handed in stays, and what lies behind its length too.
func TestHandedInStays(t *testing.T) {
	whole := []string{"a", "b", "..", "c", "d", "..", "e"}
	was := slices.Clone(whole)
	for n := range len(whole) + 1 {
		for _, slash := range []bool{false, true} {
			p := path(slash, whole[:n]...)
			wantText(t, "Text of a part", Text(p), Text(clone(p)))
			if n == 0 || whole[n-1] == ".." {
				wantNoSplit(t, p)
			} else {
				wantSplit(t, p, path(false, was[:n-1]...), was[n-1])
			}
			wantText(t, "Join of a part", Join("/x", whole[:n]...), slowJoin("/x", was[:n]))
			if !slices.Equal(whole, was) {
				t.Fatalf("handed in: %q, not %q", whole, was)
			}
		}
	}
}

// spoil writes over all of l, its spare room too.
func spoil(l []string) {
	l = l[:cap(l)]
	for i := range l {
		l[i] = "spoilt"
	}
}

// P12.1 with P0.4: each list is new memory, spare room too, and none is kept.
func TestNewMemory(t *testing.T) {
	for _, p := range wholes() {
		text := Text(p)
		one, _ := Parse(text)
		other, _ := Parse(text)
		spoil(one.Parts)
		wantPath(t, text, p)
		if !same(other, p) {
			t.Errorf("Parse(%q) once more: %s", text, show(other))
		}
		ahead, last, err := Split(other)
		if err != nil {
			continue
		}
		again, _, _ := Split(other)
		spoil(ahead.Parts)
		_ = append(ahead.Parts, "spoilt")
		if !same(other, p) {
			t.Errorf("Split of %s shares memory: %s", show(p), show(other))
		}
		spoil(other.Parts)
		if !slices.Equal(again.Parts, p.Parts[:len(p.Parts)-1]) || last != p.Parts[len(p.Parts)-1] {
			t.Errorf("Split of %s goes with it: %s %q", show(p), show(again), last)
		}
	}
}

// P0.1: long lists and texts end too.
func TestGreat(t *testing.T) {
	const n = 1 << 18
	l := slices.Repeat([]string{"a"}, n)
	want := strings.Repeat("/a", n)
	if Text(path(false, l...)) != want || Text(path(true, l...)) != want+"/" || Join("", l...) != want {
		t.Error("a long list")
	}
	wantNoPath(t, want, api.ErrLong)
	q, last, err := Split(path(true, l...))
	if len(q.Parts) != n-1 || q.Slash || last != "a" || err != nil {
		t.Error(len(q.Parts), q.Slash, last, err)
	}
	great := strings.Repeat("a", 1<<20)
	wantNoPath(t, "/"+great, api.ErrLong)
	if Join(great, great) != great+"/"+great || Text(path(false, great)) != "/"+great {
		t.Error("a great text")
	}
}

// FuzzPaths holds any texts against the chapter's sentences.
func FuzzPaths(f *testing.F) {
	f.Add("//a/./b/", "a")
	f.Add("/a/..", "")
	f.Add("", "..")
	f.Add("/"+long+"5\x00", long)
	f.Add(strings.Repeat("/", 256), "/")
	f.Fuzz(func(t *testing.T, s, a string) {
		wantAsSlow(t, s)
		wantAsSlow(t, "/"+s)
		l := strings.Split(s, ",")
		wantText(t, "Join", Join(a, l...), slowJoin(a, l))
		p, err := Parse(s)
		if err != nil {
			return
		}
		wantPath(t, Text(p), p)
		n := len(p.Parts)
		if n == 0 || p.Parts[n-1] == ".." {
			wantNoSplit(t, p)
			return
		}
		wantSplit(t, p, path(false, p.Parts[:n-1]...), p.Parts[n-1])
	})
}
