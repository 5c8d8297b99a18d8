package node

import (
	"bytes"
	"errors"
	"math"
	"math/rand"
	"slices"
	"strings"
	"testing"

	"breviary/api"
	"breviary/wire"
)

// most is the greatest ID.
const most = 1<<24 - 1

// long is a Target of just as many bytes as may be.
var long = strings.Repeat("/234567", 12) + "/234"

// ids are such about the edges of what an ID and a Parent may be, and of what wraps round in fewer bits.
func ids() []int {
	return []int{math.MinInt, -1 << 32, -1 << 24, -most, -1, 0, 1, 2, 255, 65536, most - 1, most, most + 1, most + 2, 1<<24 + 5, 1<<32 + 1, math.MaxInt}
}

// kinds are those that may be, and others.
func kinds() []int {
	return []int{math.MinInt, -255, -1, 0, api.File, api.Dir, api.Link, 4, 5, 257, 1<<32 + 1, math.MaxInt}
}

func links() []int {
	return []int{math.MinInt, -1 << 32, -16, -1, 0, 1, 2, 15, 16, 17, 18, 256, 272, 1 << 32, math.MaxInt}
}

func sizes() []int64 {
	return []int64{math.MinInt64, -1 << 32, -16384, -1, 0, 1, 255, 256, 257, 16383, 16384, 16385, 16640, 65536, 1 << 32, 1<<32 + 1, math.MaxInt64}
}

func targets() []string {
	return []string{"", "/", "a", ".", "\x00", "\xff", "\u00fc\u20ac", long[:87], long, long + "x", long + "\x00", strings.Repeat("\u00fc", 45), strings.Repeat("/", 256), strings.Repeat("/", 256+88)}
}

// slowValid is whether n may be, by the chapter's sentence.
func slowValid(n Node) bool {
	fit := n.ID > 0 && n.ID < 1<<24 && n.Links > -1 && n.Links < 17
	switch n.Kind {
	case 1:
		return fit && n.Size > -1 && n.Size < 64*256+1 && len(n.Target) == 0 && n.Parent == 0
	case 2:
		return fit && n.Size == 0 && len(n.Target) == 0 && n.Parent > 0 && n.Parent < 1<<24
	case 3:
		return fit && n.Size == 0 && len(n.Target) > 0 && len(n.Target) < 89 && n.Parent == 0
	}
	return false
}

// good are nodes of each kind that may be, at all edges.
func good() []Node {
	var out []Node
	for _, id := range ids() {
		for _, l := range links() {
			for _, s := range sizes() {
				out = append(out, Node{ID: id, Kind: api.File, Links: l, Size: s})
			}
			for _, p := range ids() {
				out = append(out, Node{ID: id, Kind: api.Dir, Links: l, Parent: p})
			}
			for _, s := range targets() {
				out = append(out, Node{ID: id, Kind: api.Link, Links: l, Target: s})
			}
		}
	}
	return slices.DeleteFunc(out, func(n Node) bool { return !slowValid(n) })
}

// few are nodes of each kind, the least and the greatest of them among others.
func few() []Node {
	return []Node{
		{ID: 1, Kind: api.File},
		{ID: 5, Kind: api.File, Links: 2, Size: 700},
		{ID: most, Kind: api.File, Links: 16, Size: 16384},
		{ID: 1, Kind: api.Dir, Parent: 1},
		{ID: 258, Kind: api.Dir, Links: 1, Parent: 300},
		{ID: most, Kind: api.Dir, Links: 16, Parent: most},
		{ID: 1, Kind: api.Link, Target: "/"},
		{ID: 9, Kind: api.Link, Links: 1, Target: "../a\x00\xff"},
		{ID: most, Kind: api.Link, Links: 16, Target: long},
	}
}

// eachNode goes over every choice of the fields, right and wrong.
func eachNode(do func(n Node)) {
	for _, id := range []int{-1, 0, 1, most, most + 1} {
		for _, k := range kinds() {
			for _, l := range links() {
				for _, s := range sizes() {
					for _, target := range []string{"", "/", long, long + "x"} {
						for _, p := range ids() {
							do(Node{id, k, l, s, target, p})
						}
					}
				}
			}
		}
	}
}

func laidBytes(t *testing.T, n Node) []byte {
	t.Helper()
	b, err := Bytes(n)
	if err != nil {
		t.Fatalf("Bytes(%v): %v", n, err)
	}
	return b
}

func wantRead(t *testing.T, b []byte, want Node) {
	t.Helper()
	if n, err := Read(want.ID, b); n != want || err != nil {
		t.Errorf("Read(%d, %v): %v, %v, not %v", want.ID, b, n, err, want)
	}
}

// wantNoNode: one of the errors that Read may answer, and nothing beside it.
func wantNoNode(t *testing.T, id int, b []byte, wants ...error) {
	t.Helper()
	n, err := Read(id, b)
	if n != (Node{}) || !slices.ContainsFunc(wants, func(want error) bool { return errors.Is(err, want) }) {
		t.Errorf("Read(%d, %v): %v, %v, not %v", id, b, n, err, wants)
	}
	if _, is := err.(*api.At); err != nil && !is && !slices.Contains(wants, err) {
		t.Errorf("Read(%d, %v): %v is neither bare nor an At", id, b, err)
	}
}

// P15.1: Valid of every choice of the fields is ErrRange, if one of them may not be.
func TestValid(t *testing.T) {
	eachNode(func(n Node) {
		want := api.ErrRange
		if slowValid(n) {
			want = nil
		}
		if err := Valid(n); err != want {
			t.Fatalf("Valid(%v): %v, not %v", n, err, want)
		}
	})
}

// P15.1: of a node that may be, one field at a time at all its edges.
func TestValidFieldByField(t *testing.T) {
	for _, n := range few() {
		hold := func(n Node) {
			t.Helper()
			if err := Valid(n); (err == nil) != slowValid(n) || err != nil && err != api.ErrRange {
				t.Errorf("Valid(%v): %v", n, err)
			}
		}
		hold(n)
		for _, id := range ids() {
			m := n
			m.ID = id
			hold(m)
			m = n
			m.Parent = id
			hold(m)
		}
		for _, k := range kinds() {
			m := n
			m.Kind = k
			hold(m)
		}
		for _, l := range links() {
			m := n
			m.Links = l
			hold(m)
		}
		for _, s := range sizes() {
			m := n
			m.Size = s
			hold(m)
		}
		for _, s := range targets() {
			m := n
			m.Target = s
			hold(m)
		}
	}
}

// P15.1: what is just on the edge, and what is just behind it.
func TestValidEdges(t *testing.T) {
	for _, n := range few() {
		if err := Valid(n); err != nil {
			t.Errorf("Valid(%v): %v", n, err)
		}
	}
	for _, n := range []Node{
		{},
		{ID: 0, Kind: api.File}, {ID: 1 << 24, Kind: api.File}, {ID: 1, Kind: 0}, {ID: 1, Kind: 4},
		{ID: 1, Kind: api.File, Links: -1}, {ID: 1, Kind: api.File, Links: 17},
		{ID: 1, Kind: api.File, Size: -1}, {ID: 1, Kind: api.File, Size: 16385},
		{ID: 1, Kind: api.File, Target: "/"}, {ID: 1, Kind: api.File, Parent: 1},
		{ID: 1, Kind: api.Dir, Parent: 0}, {ID: 1, Kind: api.Dir, Parent: 1 << 24}, {ID: 1, Kind: api.Dir, Parent: -1},
		{ID: 1, Kind: api.Dir, Parent: 1, Size: 1}, {ID: 1, Kind: api.Dir, Parent: 1, Target: "/"},
		{ID: 1, Kind: api.Link}, {ID: 1, Kind: api.Link, Target: long + "x"},
		{ID: 1, Kind: api.Link, Target: "/", Size: 1}, {ID: 1, Kind: api.Link, Target: "/", Parent: 1},
	} {
		if err := Valid(n); err != api.ErrRange {
			t.Errorf("Valid(%v): %v", n, err)
		}
	}
}

// P15.1: Bytes' error is Valid's, and there is nothing beside it.
func TestBytesOfNoNode(t *testing.T) {
	eachNode(func(n Node) {
		if slowValid(n) {
			return
		}
		if b, err := Bytes(n); len(b) > 0 || err != api.ErrRange {
			t.Fatalf("Bytes(%v): %v, %v", n, b, err)
		}
	})
}

// P15.1: what Bytes lays is short enough, a keep's value too, and Read has it back.
func TestBytesAndBack(t *testing.T) {
	all := good()
	if len(all) < 200 {
		t.Fatal(len(all))
	}
	for _, n := range all {
		b := laidBytes(t, n)
		if len(b) > 30+len(n.Target) || len(b) > api.MaxValue {
			t.Fatalf("Bytes(%v): %d bytes", n, len(b))
		}
		wantRead(t, b, n)
	}
}

// P15.1: two nodes that are the same but for their IDs are read from either's bytes; any others have other bytes.
func TestBytesTellNodesApart(t *testing.T) {
	whose := map[string]Node{}
	for _, n := range good() {
		b := string(laidBytes(t, n))
		n.ID = 0
		if m, is := whose[b]; is && m != n {
			t.Fatalf("%v and %v have the same bytes", n, m)
		}
		whose[b] = n
	}
}

// P15.1: Read gives the node the ID that it is told; ErrRange of one that may not be.
func TestReadID(t *testing.T) {
	for _, n := range few() {
		b := laidBytes(t, n)
		for _, id := range ids() {
			m := n
			m.ID = id
			if slowValid(m) {
				wantRead(t, b, m)
			} else if got, err := Read(id, b); got != (Node{}) || err != api.ErrRange {
				t.Errorf("Read(%d, %v): %v, %v", id, b, got, err)
			}
		}
	}
}

// P15.1: bytes that are cut off anywhere are an error; so it is with what lay behind them still in their memory.
func TestReadCutOff(t *testing.T) {
	for _, n := range good() {
		b := laidBytes(t, n)
		for i := range b {
			wantNoNode(t, n.ID, b[:i], api.ErrEnd, api.ErrShape)
			wantNoNode(t, n.ID, slices.Clip(slices.Clone(b[:i])), api.ErrEnd, api.ErrShape)
			wantNoNode(t, 0, b[:i], api.ErrEnd, api.ErrShape)
		}
	}
	wantNoNode(t, 1, nil, api.ErrEnd)
	wantNoNode(t, 1, []byte{}, api.ErrEnd)
}

// P15.1: bytes that have more behind are an error, whatever that is, and whatever the ID.
func TestReadMoreBehind(t *testing.T) {
	for _, n := range good() {
		b := laidBytes(t, n)
		for _, more := range [][]byte{{0}, {1}, {2}, {127}, {128}, {255}, {0, 0}, {128, 0}, make([]byte, 300), b} {
			wantNoNode(t, n.ID, slices.Concat(b, more), api.ErrShape)
			wantNoNode(t, 0, slices.Concat(b, more), api.ErrShape)
		}
	}
	for c := range 256 {
		for _, n := range few() {
			wantNoNode(t, n.ID, append(laidBytes(t, n), byte(c)), api.ErrShape)
		}
	}
}

// layWire is any fields, as Bytes lays those that may be.
func layWire(n Node) []byte {
	var b []byte
	for _, v := range []int64{int64(n.Kind), int64(n.Links), n.Size, int64(n.Parent)} {
		b = wire.Put(b, v)
	}
	return wire.PutText(b, n.Target)
}

// P15.1: bytes of fields that may not be, each alone or one with the other, are ErrRange.
func TestReadOfNoNode(t *testing.T) {
	if b := layWire(few()[2]); !bytes.Equal(b, laidBytes(t, few()[2])) {
		t.Fatal(b)
	}
	r := rand.New(rand.NewSource(15))
	eachNode(func(n Node) {
		if slowValid(n) {
			wantRead(t, layWire(n), n)
		} else if r.Intn(4) == 0 {
			wantNoNode(t, n.ID, layWire(n), api.ErrRange)
		}
	})
}

// P15.1: the reader's errors are told with their places.
func TestReadPlaces(t *testing.T) {
	file := laidBytes(t, Node{ID: 1, Kind: api.File, Links: 3, Size: 5}) // 2, 6, 10, 0, 0
	for _, c := range []struct {
		b    []byte
		pos  int
		want error
	}{
		{nil, 0, api.ErrEnd},
		{file[:1], 1, api.ErrEnd},
		{file[:4], 4, api.ErrEnd},
		{[]byte{2, 6, 128, 0, 0, 0}, 2, api.ErrShape},
		{[]byte{8, 6, 10, 0, 0}, 0, api.ErrRange},
		{[]byte{2, 34, 10, 0, 0}, 1, api.ErrRange},
		{[]byte{6, 6, 0, 0, 4, 'a'}, 4, api.ErrEnd},
		{[]byte{6, 6, 0, 0, 178, 1, 'a'}, 4, api.ErrRange},
	} {
		n, err := Read(1, c.b)
		var at *api.At
		if n != (Node{}) || !errors.As(err, &at) || at.Pos != c.pos || at.Err != c.want {
			t.Errorf("Read(1, %v): %v, %v, not %v at %d", c.b, n, err, c.want, c.pos)
		}
	}
}

// wantSound holds any bytes: there is an error, or a node that may be, and that is laid and read back.
func wantSound(t *testing.T, id int, b []byte) {
	t.Helper()
	n, err := Read(id, b)
	if err != nil {
		wantNoNode(t, id, b, api.ErrEnd, api.ErrShape, api.ErrRange)
		return
	}
	if n.ID != id || !slowValid(n) {
		t.Errorf("Read(%d, %v): %v", id, b, n)
	}
	wantRead(t, laidBytes(t, n), n)
}

// P15.1: whatever became of the bytes, Read tells a node that may be, or an error.
func TestReadAnyBytes(t *testing.T) {
	for _, n := range few() {
		b := laidBytes(t, n)
		for i := range b {
			for c := range 256 {
				turned := slices.Clone(b)
				turned[i] = byte(c)
				wantSound(t, n.ID, turned)
			}
			wantSound(t, n.ID, slices.Delete(slices.Clone(b), i, i+1))
			wantSound(t, n.ID, slices.Insert(slices.Clone(b), i, 128))
		}
	}
	r := rand.New(rand.NewSource(16))
	for range 20000 {
		b := make([]byte, r.Intn(40))
		r.Read(b)
		for i := range min(len(b), 5) {
			b[i] = []byte{0, 2, 4, 6, 128, b[i]}[r.Intn(6)]
		}
		wantSound(t, r.Intn(3), b)
	}
}

// P15.1 with P0.4: each Bytes is new memory, spare room too; Read neither changes nor keeps what it is handed.
func TestBytesNewMemory(t *testing.T) {
	for _, n := range few() {
		one, other := laidBytes(t, n), laidBytes(t, n)
		want := slices.Clone(one)
		clear(one[:cap(one)])
		_ = append(one, 9, 9, 9)
		if !bytes.Equal(other, want) || !bytes.Equal(laidBytes(t, n), want) {
			t.Fatalf("two Bytes of %v share memory", n)
		}
		whole := append(slices.Clone(want), bytes.Repeat([]byte{77}, 40)...)
		got, err := Read(n.ID, whole[:len(want)])
		if err != nil || !bytes.Equal(whole, append(slices.Clone(want), bytes.Repeat([]byte{77}, 40)...)) {
			t.Fatalf("Read(%v) changed what it was handed: %v, %v", want, whole, err)
		}
		clear(whole)
		if got != n {
			t.Fatalf("%v goes with the bytes it was read of: %v", n, got)
		}
	}
}

// P0.1: great bytes and texts.
func TestGreatBytes(t *testing.T) {
	great := strings.Repeat("/", 1<<20)
	if b, err := Bytes(Node{ID: 1, Kind: api.Link, Target: great}); len(b) > 0 || err != api.ErrRange {
		t.Error(len(b), err)
	}
	for _, c := range []byte{0, 2, 127, 128, 255} {
		if n, err := Read(1, bytes.Repeat([]byte{c}, 1<<20)); err == nil || n != (Node{}) {
			t.Error(c, n, err)
		}
	}
	if n, err := Read(1, layWire(Node{Kind: api.Link, Target: great})); !errors.Is(err, api.ErrRange) || n != (Node{}) {
		t.Error(n.ID, err)
	}
}

// FuzzNodes holds any node and any bytes against the chapter's sentences.
func FuzzNodes(f *testing.F) {
	f.Add(1, api.File, 16, int64(16384), "", 0, []byte{2, 6, 10, 0, 0})
	f.Add(most, api.Dir, 1, int64(0), "", most, []byte{4, 2, 0, 2, 0})
	f.Add(2, api.Link, 0, int64(0), "/", 0, []byte{6, 2, 0, 0, 4, '/', 'a'})
	f.Add(0, 4, 17, int64(-1), long+"x", -1, []byte{})
	f.Fuzz(func(t *testing.T, id, kind, links int, size int64, target string, parent int, b []byte) {
		n := Node{id, kind, links, size, target, parent}
		wantSound(t, id, b)
		laid, err := Bytes(n)
		if !slowValid(n) {
			if Valid(n) != api.ErrRange || len(laid) > 0 || err != api.ErrRange {
				t.Errorf("Bytes(%v): %v, %v, and Valid: %v", n, laid, err, Valid(n))
			}
			return
		}
		if Valid(n) != nil || err != nil || len(laid) > 30+len(target) {
			t.Errorf("Bytes(%v): %v, %v, and Valid: %v", n, laid, err, Valid(n))
		}
		wantRead(t, laid, n)
		if len(b) > 0 {
			wantNoNode(t, id, slices.Concat(laid, b), api.ErrShape)
		}
		wantNoNode(t, id, laid[:len(b)%len(laid)], api.ErrEnd, api.ErrShape)
	})
}
