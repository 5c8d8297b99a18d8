package rec

import (
	"bytes"
	"math"
	"math/rand"
	"slices"
	"sort"
	"strings"
	"testing"

	"breviary/api"
)

const most = 1<<24 - 1

// long is a name of just as many bytes as may be.
const long = "123456789012345678901234"

func kinds() []int { return []int{Super, Node, Entry, Block} }

// nums are the numbers at which something changes: around 0, around what a byte has, and around the greatest.
func nums() []int {
	return []int{0, 1, 2, 127, 128, 255, 256, 257, 258, 32767, 65535, 65536, 65537, 0x010203, 0x800000, 0xff0000, 0x00ff00, most - 1, most}
}

// wrongNums are no numbers of a place; some of them would be, if they were cut to some bits.
func wrongNums() []int {
	return []int{math.MinInt, -1 << 32, -1<<24 + 1, -256, -2, -1, most + 1, most + 2, 1 << 25, 1 << 31, 1 << 32, 1<<32 + 5, 1 << 56, math.MaxInt}
}

func wrongKinds() []int {
	return []int{math.MinInt, -255, -2, -1, 0, 5, 6, 127, 128, 255, 256, 257, 258, 259, 260, 1 << 32, 1<<32 + 2, math.MaxInt}
}

func names() []string {
	return []string{"", "\x00", "\x00\x00", "\x01", "/", ".", "..", "a", "a\x00", "a/", "ab", "b", "\x7f", "\x80", "\xff", "\xff\xff", "\u00fc\u20ac", long[:23], long, strings.Repeat("\x00", 24), strings.Repeat("\xff", 24)}
}

// places are places of each kind, with each of nums and of names.
func places() []Place {
	var out []Place
	for _, n := range nums() {
		out = append(out, Place{Kind: Super, Node: n}, Place{Kind: Node, Node: n})
		for _, s := range names() {
			out = append(out, Place{Kind: Entry, Node: n, Name: s})
		}
		for _, i := range nums() {
			out = append(out, Place{Kind: Block, Node: n, Index: i})
		}
	}
	return out
}

func somePlace(r *rand.Rand) Place {
	p := Place{Kind: 1 + r.Intn(4), Node: r.Intn(most + 1)}
	switch p.Kind {
	case Block:
		p.Index = r.Intn(most + 1)
	case Entry:
		p.Name = someBytes(r, r.Intn(api.MaxName+1))
	}
	return p
}

func someBytes(r *rand.Rand, n int) string {
	b := make([]byte, n)
	r.Read(b)
	return string(b)
}

// slowKey is p's key worked out by division.
func slowKey(p Place) []byte {
	three := func(n int) []byte { return []byte{byte(n / 65536), byte(n / 256 % 256), byte(n % 256)} }
	out := slices.Concat([]byte{byte(p.Kind)}, three(p.Node))
	if p.Kind == Block {
		out = slices.Concat(out, three(p.Index))
	}
	return slices.Concat(out, []byte(p.Name))
}

func key(t *testing.T, p Place) []byte {
	t.Helper()
	b, err := Key(p)
	if err != nil {
		t.Fatalf("Key(%v): %v", p, err)
	}
	return b
}

func wantNoKey(t *testing.T, p Place, want error) {
	t.Helper()
	if b, err := Key(p); len(b) > 0 || err != want {
		t.Errorf("Key(%v): %v %v, not %v", p, b, err, want)
	}
}

func wantNoPlace(t *testing.T, b []byte, want error) {
	t.Helper()
	if p, err := Read(b); p != (Place{}) || err != want {
		t.Errorf("Read(%v): %v %v, not %v", b, p, err, want)
	}
}

// P10.1: the numbers of the kinds, which are the keys' first bytes.
func TestKinds(t *testing.T) {
	if got := kinds(); !slices.Equal(got, []int{1, 2, 3, 4}) {
		t.Error(got)
	}
}

// P10.1: the bytes themselves.
func TestKeyBytes(t *testing.T) {
	for _, c := range []struct {
		p    Place
		want []byte
	}{
		{Place{Kind: Super}, []byte{1, 0, 0, 0}},
		{Place{Kind: Super, Node: 7}, []byte{1, 0, 0, 7}},
		{Place{Kind: Node, Node: 2}, []byte{2, 0, 0, 2}},
		{Place{Kind: Node, Node: 0x010203}, []byte{2, 1, 2, 3}},
		{Place{Kind: Node, Node: most}, []byte{2, 255, 255, 255}},
		{Place{Kind: Entry, Node: 1}, []byte{3, 0, 0, 1}},
		{Place{Kind: Entry, Node: 256, Name: "a/\x00"}, []byte{3, 0, 1, 0, 'a', '/', 0}},
		{Place{Kind: Entry, Node: 1, Name: "\u00fc"}, []byte{3, 0, 0, 1, 0xc3, 0xbc}},
		{Place{Kind: Entry, Node: 1, Name: long}, append([]byte{3, 0, 0, 1}, long...)},
		{Place{Kind: Block}, []byte{4, 0, 0, 0, 0, 0, 0}},
		{Place{Kind: Block, Node: 258, Index: 3}, []byte{4, 0, 1, 2, 0, 0, 3}},
		{Place{Kind: Block, Node: 1, Index: 0x0a0b0c}, []byte{4, 0, 0, 1, 10, 11, 12}},
		{Place{Kind: Block, Node: most, Index: most}, []byte{4, 255, 255, 255, 255, 255, 255}},
	} {
		if got := key(t, c.p); !bytes.Equal(got, c.want) {
			t.Errorf("Key(%v): %v, not %v", c.p, got, c.want)
		}
	}
}

// P10.1: each key is as division lays it, is read back, and fits a keep.
func TestKeyAndBack(t *testing.T) {
	all := places()
	r := rand.New(rand.NewSource(10))
	for range 20000 {
		all = append(all, somePlace(r))
	}
	for _, p := range all {
		b := key(t, p)
		if !bytes.Equal(b, slowKey(p)) || len(b) > api.MaxKey {
			t.Fatalf("Key(%v): %v, not %v", p, b, slowKey(p))
		}
		if q, err := Read(b); q != p || err != nil {
			t.Fatalf("Read(%v): %v %v, not %v", b, q, err, p)
		}
	}
}

// P10.1: a Kind that is none, whatever else there is.
func TestKeyWrongKind(t *testing.T) {
	for _, k := range wrongKinds() {
		for _, p := range []Place{{}, {Node: 1}, {Index: 1}, {Name: "a"}, {Name: long + "x"}, {Node: -1, Index: -1, Name: long + "x"}} {
			p.Kind = k
			wantNoKey(t, p, api.ErrRange)
		}
	}
}

// P10.1: a Node or an Index that is none, of each Kind, ahead of a Name that is too long.
func TestKeyWrongNum(t *testing.T) {
	for _, k := range kinds() {
		for _, n := range wrongNums() {
			for _, s := range []string{"", "a", long + "x"} {
				wantNoKey(t, Place{Kind: k, Node: n, Name: s}, api.ErrRange)
				wantNoKey(t, Place{Kind: k, Index: n, Name: s}, api.ErrRange)
				wantNoKey(t, Place{Kind: k, Node: n, Index: n, Name: s}, api.ErrRange)
			}
		}
	}
}

// P10.1: an Index of what is no Block, a Name of what is no Entry; also a Name that is too long.
func TestKeyOfAnothersField(t *testing.T) {
	for _, k := range kinds() {
		for _, n := range nums() {
			if k != Block && n != 0 {
				wantNoKey(t, Place{Kind: k, Node: 1, Index: n}, api.ErrRange)
				wantNoKey(t, Place{Kind: k, Node: 1, Index: n, Name: "a"}, api.ErrRange)
				wantNoKey(t, Place{Kind: k, Node: 1, Index: n, Name: long + "x"}, api.ErrRange)
			}
		}
		for _, s := range append(names(), long+"x", strings.Repeat("x", 1000)) {
			if k != Entry && s != "" {
				wantNoKey(t, Place{Kind: k, Node: 1, Name: s}, api.ErrRange)
			}
		}
	}
}

// P10.1: an Entry's Name of more than MaxName bytes (not runes).
func TestKeyLongName(t *testing.T) {
	for _, s := range []string{long + "x", long + "\x00", strings.Repeat("\u00fc", 13), strings.Repeat("\xff", 25), strings.Repeat("x", 256), strings.Repeat("x", 256+24), strings.Repeat("x", 70000)} {
		for _, n := range nums() {
			wantNoKey(t, Place{Kind: Entry, Node: n, Name: s}, api.ErrLong)
		}
	}
}

// P10.1: fewer than four bytes are ErrEnd, whatever the Kind.
func TestReadHeadCutOff(t *testing.T) {
	wantNoPlace(t, nil, api.ErrEnd)
	for k := range 256 {
		for size := 1; size < 4; size++ {
			wantNoPlace(t, []byte{byte(k), 0, 255}[:size], api.ErrEnd)
		}
	}
}

// P10.1: of four bytes and more a Kind that is none is ErrRange, however many there are.
func TestReadWrongKind(t *testing.T) {
	for k := range 256 {
		if k >= 1 && k <= 4 {
			continue
		}
		for size := 4; size < 40; size++ {
			wantNoPlace(t, append([]byte{byte(k)}, make([]byte, size-1)...), api.ErrRange)
		}
	}
}

// P10.1: of each Kind each count of bytes: fewer than such a key has, just as many, more.
func TestReadEachSize(t *testing.T) {
	r := rand.New(rand.NewSource(20))
	sizes := map[int][2]int{Super: {4, 4}, Node: {4, 4}, Entry: {4, 28}, Block: {7, 7}}
	for _, k := range kinds() {
		for size := 4; size < 300; size++ {
			b := append([]byte{byte(k)}, someBytes(r, size-1)...)
			switch {
			case size < sizes[k][0]:
				wantNoPlace(t, b, api.ErrEnd)
			case size > sizes[k][1]:
				wantNoPlace(t, b, api.ErrShape)
			default:
				p, err := Read(b)
				if err != nil || p.Kind != k || !bytes.Equal(slowKey(p), b) {
					t.Errorf("Read(%v): %v %v", b, p, err)
				}
			}
		}
	}
}

// P10.1: keys stand as Less has their places, and so do the places' fields; none is ahead of itself.
func TestLessAsKeys(t *testing.T) {
	all := places()
	r := rand.New(rand.NewSource(30))
	for range 200 {
		all = append(all, somePlace(r))
	}
	keys := make([][]byte, len(all))
	for i, p := range all {
		keys[i] = key(t, p)
	}
	for i, p := range all {
		for j, q := range all {
			c := bytes.Compare(keys[i], keys[j])
			if Less(p, q) != (c < 0) || (c == 0) != (p == q) {
				t.Fatalf("Less(%v, %v): %v, but of keys %v, %v", p, q, Less(p, q), keys[i], keys[j])
			}
		}
	}
}

// P10.1: Kind goes ahead of Node, that ahead of Index, that ahead of Name, each by what it is, also of places that have no key.
func TestLessByFields(t *testing.T) {
	ends := []int{math.MinInt, -1, 0, 1, math.MaxInt}
	texts := []string{"", "\x00", "Z", "a", "ab", "\x80", "\xff", strings.Repeat("\xff", 100)}
	var all []Place
	for _, k := range ends {
		for _, n := range ends {
			for _, i := range ends {
				for _, s := range texts {
					all = append(all, Place{k, n, i, s})
				}
			}
		}
	}
	for i, p := range all {
		for j, q := range all {
			if Less(p, q) != (i < j) {
				t.Fatalf("Less(%v, %v): %v", p, q, Less(p, q))
			}
		}
	}
}

// P10.1: what is sorted by Less has its keys sorted.
func TestSortedByLess(t *testing.T) {
	all := places()
	r := rand.New(rand.NewSource(40))
	r.Shuffle(len(all), func(i, j int) { all[i], all[j] = all[j], all[i] })
	sort.Slice(all, func(i, j int) bool { return Less(all[i], all[j]) })
	var last []byte
	for _, p := range all {
		b := key(t, p)
		if bytes.Compare(last, b) >= 0 {
			t.Fatalf("%v stands ahead of %v", last, b)
		}
		last = b
	}
}

// Ways: a Place is a map's key, by what it is.
func TestPlaceIsMapsKey(t *testing.T) {
	m := map[Place]int{}
	for i, p := range places() {
		m[p] = i
	}
	for i, p := range places() {
		p.Name = string([]byte(p.Name))
		if got, ok := m[p]; !ok || got != i {
			t.Fatalf("%v: %d %v, not %d", p, got, ok, i)
		}
	}
}

// P10.1 with P0.4: each key is new memory, spare room too, and a place keeps nothing of the bytes it was read of.
func TestNewMemory(t *testing.T) {
	for _, p := range places() {
		one, other := key(t, p), key(t, p)
		clear(one[:cap(one)])
		_ = append(one, 9, 9, 9)
		if !bytes.Equal(other, slowKey(p)) || !bytes.Equal(key(t, p), other) {
			t.Fatalf("two keys of %v share memory", p)
		}
		whole := append(slowKey(p), bytes.Repeat([]byte{77}, 40)...)
		handed := whole[:len(whole)-40]
		q, err := Read(handed)
		if err != nil || !bytes.Equal(whole, append(slowKey(p), bytes.Repeat([]byte{77}, 40)...)) {
			t.Fatalf("Read(%v) changed what it was handed: %v, %v", slowKey(p), whole, err)
		}
		clear(whole)
		if q != p {
			t.Fatalf("%v goes with the bytes it was read of: %v", p, q)
		}
	}
}

// P10.1 with P0.7: what lies behind the length is not there, be it ever so right.
func TestReadBehindLength(t *testing.T) {
	b := []byte{4, 0, 0, 1, 0, 0, 2}
	wantNoPlace(t, b[:3], api.ErrEnd)
	wantNoPlace(t, b[:4], api.ErrEnd)
	wantNoPlace(t, b[:6], api.ErrEnd)
	e := []byte{3, 0, 0, 1, 'a', 'b'}
	if p, err := Read(e[:5]); err != nil || p != (Place{Kind: Entry, Node: 1, Name: "a"}) {
		t.Error(p, err)
	}
}

// FuzzKeys holds any bytes, and any place, against the chapter's sentences.
func FuzzKeys(f *testing.F) {
	f.Add([]byte{2, 0, 0, 2}, 4, 258, 3, "")
	f.Add([]byte{4, 0, 1, 2, 0, 0, 3}, 3, most, 0, long)
	f.Add([]byte{3, 0, 0, 1, 'a'}, 3, 1, 0, long+"x")
	f.Add([]byte{9, 0, 0}, 0, -1, most+1, "a")
	f.Fuzz(func(t *testing.T, b []byte, kind, node, index int, name string) {
		p, err := Read(b)
		if err != nil && p != (Place{}) {
			t.Errorf("beside %v: %v", err, p)
		}
		if err == nil && !bytes.Equal(key(t, p), b) {
			t.Errorf("Read(%v): %v", b, p)
		}
		q := Place{kind, node, index, name}
		c, err := Key(q)
		if err != nil {
			wantNoKey(t, q, err)
			return
		}
		if back, err := Read(c); back != q || err != nil || !bytes.Equal(c, slowKey(q)) {
			t.Errorf("Key(%v): %v, and back %v %v", q, c, back, err)
		}
		if p != (Place{}) && Less(p, q) != (bytes.Compare(b, c) < 0) {
			t.Errorf("Less(%v, %v): %v", p, q, Less(p, q))
		}
	})
}
