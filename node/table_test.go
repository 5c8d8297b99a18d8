package node

import (
	"math"
	"math/rand"
	"slices"
	"testing"

	"breviary/api"
)

// slow is a table in no order: each call goes over all of it.
type slow struct {
	nodes    []Node
	greatest int
}

func (l *slow) at(id int) int {
	for i, n := range l.nodes {
		if n.ID == id {
			return i
		}
	}
	return -1
}

// fresh is the node that New makes, by the chapter's sentence.
func fresh(id, kind int) Node {
	switch kind {
	case api.Dir:
		return Node{ID: id, Kind: 2, Parent: 1}
	case api.Link:
		return Node{ID: id, Kind: 3, Target: "/"}
	}
	return Node{ID: id, Kind: kind}
}

func (l *slow) new(kind int) (int, error) {
	if kind != 1 && kind != 2 && kind != 3 {
		return 0, api.ErrRange
	}
	if len(l.nodes) == 512 || l.greatest == 1<<24-1 {
		return 0, api.ErrMany
	}
	id := l.greatest + 1
	return id, l.put(fresh(id, kind))
}

func (l *slow) put(n Node) error {
	if !slowValid(n) {
		return api.ErrRange
	}
	i := l.at(n.ID)
	if i < 0 && len(l.nodes) == 512 {
		return api.ErrMany
	}
	if i < 0 {
		l.nodes = append(l.nodes, n)
	} else {
		l.nodes[i] = n
	}
	if n.ID > l.greatest {
		l.greatest = n.ID
	}
	return nil
}

func (l *slow) del(id int) bool {
	i := l.at(id)
	if i >= 0 {
		l.nodes = slices.Delete(l.nodes, i, i+1)
	}
	return i >= 0
}

func file(id int) Node { return Node{ID: id, Kind: api.File, Links: id % 17, Size: int64(id % 16385)} }

func wantNew(t *testing.T, l *Table, kind, id int) {
	t.Helper()
	if got, err := l.New(kind); got != id || err != nil {
		t.Errorf("New(%d): %d, %v, not %d", kind, got, err, id)
	}
}

func wantNoNew(t *testing.T, l *Table, kind int, want error) {
	t.Helper()
	if got, err := l.New(kind); got != 0 || err != want {
		t.Errorf("New(%d): %d, %v, not %v", kind, got, err, want)
	}
}

func wantPut(t *testing.T, l *Table, n Node, want error) {
	t.Helper()
	if err := l.Put(n); err != want {
		t.Errorf("Put(%v): %v, not %v", n, err, want)
	}
}

func wantNone(t *testing.T, l *Table, id int) {
	t.Helper()
	if n, is := l.Get(id); is || n != (Node{}) {
		t.Errorf("Get(%d): %v, %v", id, n, is)
	}
}

// wantTable holds all that l tells against those nodes, which may be in any order.
func wantTable(t *testing.T, l *Table, want ...Node) {
	t.Helper()
	var all []int
	for _, n := range want {
		all = append(all, n.ID)
		if got, is := l.Get(n.ID); got != n || !is {
			t.Errorf("Get(%d): %v, %v, not %v", n.ID, got, is, n)
		}
	}
	slices.Sort(all)
	if got := l.All(); !slices.Equal(got, all) {
		t.Errorf("All: %v, not %v", got, all)
	}
	if got := l.Len(); got != len(want) {
		t.Errorf("Len: %d, not %d", got, len(want))
	}
}

// with is a table into which those were put, one by one.
func with(t *testing.T, nodes ...Node) *Table {
	t.Helper()
	l := new(Table)
	for _, n := range nodes {
		wantPut(t, l, n, nil)
	}
	return l
}

// files are n nodes, from that ID on.
func files(from, n int) []Node {
	var out []Node
	for i := range n {
		out = append(out, file(from+i))
	}
	return out
}

// P15.2: an empty table has nothing, whatever it is asked for; so has its clone.
func TestEmptyTable(t *testing.T) {
	var l Table
	for _, id := range ids() {
		for _, x := range []*Table{&l, l.Clone(), new(Table).Clone().Clone()} {
			wantNone(t, x, id)
			if x.Del(id) {
				t.Errorf("Del(%d)", id)
			}
			wantTable(t, x)
		}
	}
	wantNew(t, l.Clone(), api.File, 1)
	wantNew(t, &l, api.Dir, 1)
}

// P15.2: New's nodes, of each kind: without links, empty, of the kind's least.
func TestNew(t *testing.T) {
	var l Table
	wantNew(t, &l, api.Dir, 1)
	wantTable(t, &l, Node{ID: 1, Kind: api.Dir, Parent: api.RootNode})
	wantNew(t, &l, api.File, 2)
	wantNew(t, &l, api.Link, 3)
	wantNew(t, &l, api.Dir, 4)
	wantTable(t, &l, fresh(1, api.Dir), fresh(2, api.File), fresh(3, api.Link), fresh(4, api.Dir))
	for _, id := range l.All() {
		if n, _ := l.Get(id); Valid(n) != nil || n.Links != 0 || n.Size != 0 {
			t.Error(n)
		}
	}
}

// P15.2: a kind that is none is ErrRange, in a full table too; no number is lost by it.
func TestNewWrongKind(t *testing.T) {
	full := with(t, files(1, api.MaxNodes)...)
	last := with(t, file(most))
	var l Table
	for _, k := range kinds() {
		if k == api.File || k == api.Dir || k == api.Link {
			wantNoNew(t, full, k, api.ErrMany)
			wantNoNew(t, last, k, api.ErrMany)
			continue
		}
		wantNoNew(t, full, k, api.ErrRange)
		wantNoNew(t, last, k, api.ErrRange)
		wantNoNew(t, &l, k, api.ErrRange)
		wantTable(t, &l)
	}
	wantNew(t, &l, api.File, 1)
	wantTable(t, full, files(1, api.MaxNodes)...)
	wantTable(t, last, file(most))
}

// P15.2: New's number is one more than the greatest that ever was New or Put here.
func TestNewNumbers(t *testing.T) {
	var l Table
	wantPut(t, &l, file(7), nil)
	wantNew(t, &l, api.File, 8)
	wantPut(t, &l, file(3), nil)
	wantNew(t, &l, api.File, 9)
	wantPut(t, &l, file(9), nil)
	wantNew(t, &l, api.File, 10)
	for _, id := range []int{10, 9, 8, 7, 3} {
		if !l.Del(id) {
			t.Errorf("Del(%d)", id)
		}
	}
	wantTable(t, &l)
	wantNew(t, &l, api.Link, 11)
	wantTable(t, &l, fresh(11, api.Link))
	wantPut(t, &l, file(1000), nil)
	l.Del(1000)
	l.Del(2000)
	wantNone(t, &l, 3000)
	wantNew(t, &l, api.Dir, 1001)
	wantTable(t, &l, fresh(11, api.Link), fresh(1001, api.Dir))
}

// P15.2 with P0.2: a number that a Put with an error had counts for nothing.
func TestNewNumbersOfErrors(t *testing.T) {
	var l Table
	for _, n := range []Node{{ID: 9}, {ID: 9, Kind: api.Dir}, {ID: 9, Kind: api.File, Links: 17}, {ID: 9, Kind: api.Link}, {ID: most + 1, Kind: api.File}} {
		wantPut(t, &l, n, api.ErrRange)
	}
	wantTable(t, &l)
	wantNew(t, &l, api.File, 1)
	full := with(t, files(1, api.MaxNodes)...)
	wantPut(t, full, file(9000), api.ErrMany)
	wantNoNew(t, full, api.File, api.ErrMany)
	full.Del(5)
	wantNew(t, full, api.File, api.MaxNodes+1)
}

// P15.2: above 2^24 - 1 there is no number, also when the greatest is gone.
func TestNewBehindLast(t *testing.T) {
	l := with(t, file(most-1))
	wantNew(t, l, api.Dir, most)
	wantTable(t, l, file(most-1), fresh(most, api.Dir))
	for _, gone := range []int{0, most, most - 1} {
		l.Del(gone)
		for _, k := range []int{api.File, api.Dir, api.Link} {
			wantNoNew(t, l, k, api.ErrMany)
			wantNoNew(t, l.Clone(), k, api.ErrMany)
		}
	}
	wantTable(t, l)
	wantPut(t, l, file(1), nil)
	wantTable(t, l, file(1))
}

// P15.2: MaxNodes nodes by New, or by Put, or by both; then none more, till one is gone.
func TestMany(t *testing.T) {
	for _, news := range []int{0, 1, 200, api.MaxNodes - 1, api.MaxNodes} {
		var l Table
		var want []Node
		for i := range news {
			wantNew(t, &l, i%3+1, i+1)
			want = append(want, fresh(i+1, i%3+1))
		}
		for i := news; i < api.MaxNodes; i++ {
			wantPut(t, &l, file(10000-i), nil)
			want = append(want, file(10000-i))
		}
		wantTable(t, &l, want...)
		wantNoNew(t, &l, api.File, api.ErrMany)
		wantPut(t, &l, file(20000), api.ErrMany)
		wantPut(t, &l, file(600), api.ErrMany)
		wantPut(t, &l, Node{ID: 20000}, api.ErrRange)
		wantPut(t, &l, Node{ID: want[0].ID}, api.ErrRange)
		for i, n := range want {
			want[i] = Node{ID: n.ID, Kind: api.Link, Target: "b"}
			wantPut(t, &l, want[i], nil)
		}
		wantTable(t, &l, want...)
		l.Del(want[0].ID)
		wantPut(t, &l, file(20000), nil)
		wantPut(t, &l, want[0], api.ErrMany)
		l.Del(want[1].ID)
		wantNew(t, &l, api.File, 20001)
		wantNoNew(t, &l, api.File, api.ErrMany)
		wantTable(t, &l, append(want[2:], file(20000), fresh(20001, api.File))...)
	}
}

// P15.2: Put's error is Valid's, and it changes nothing; else the node is there as it was put, whatever was there.
func TestPut(t *testing.T) {
	for _, was := range few() {
		for _, n := range few() {
			n.ID = was.ID
			l := with(t, was, file(77))
			wantPut(t, l, n, nil)
			wantTable(t, l, n, file(77))
		}
		l := with(t, was, file(77))
		eachNode(func(n Node) {
			if n.ID >= 0 && n.ID <= 1 && !slowValid(n) {
				n.ID *= was.ID
				wantPut(t, l, n, api.ErrRange)
			}
		})
		wantTable(t, l, was, file(77))
	}
	for _, n := range good() {
		wantTable(t, with(t, n), n)
	}
}

// P15.2: what is told of a node, and what was put, go their own ways.
func TestNodesAreValues(t *testing.T) {
	l := with(t, file(5))
	n, _ := l.Get(5)
	n.Size, n.Links, n.Kind, n.Target, n.Parent, n.ID = 9, 9, api.Link, "x", 9, 6
	wantTable(t, l, file(5))
	n = fresh(5, api.Dir)
	wantPut(t, l, n, nil)
	n.Parent = 99
	wantTable(t, l, fresh(5, api.Dir))
}

// P15.2: Del is false of what is not there, and then nothing is changed; what is gone may be put anew.
func TestDelNode(t *testing.T) {
	all := files(10, 20)
	for i, n := range all {
		l := with(t, all...)
		for _, id := range append(ids(), 9, 30) {
			if l.Del(id) {
				t.Errorf("Del(%d)", id)
			}
			wantNone(t, l, id)
		}
		wantTable(t, l, all...)
		rest := slices.Delete(slices.Clone(all), i, i+1)
		if !l.Del(n.ID) || l.Del(n.ID) {
			t.Errorf("Del(%d)", n.ID)
		}
		wantNone(t, l, n.ID)
		wantTable(t, l, rest...)
		wantPut(t, l, fresh(n.ID, api.Link), nil)
		wantTable(t, l, append(rest, fresh(n.ID, api.Link))...)
	}
}

// P15.2: All rises, in whatever order they were put.
func TestAllRises(t *testing.T) {
	r := rand.New(rand.NewSource(2))
	for range 200 {
		all := []Node{file(1), file(2), file(10), file(255), file(256), file(257), file(65535), file(65536), file(1 << 23), file(most - 1), file(most)}
		r.Shuffle(len(all), func(i, j int) { all[i], all[j] = all[j], all[i] })
		wantTable(t, with(t, all...), all...)
	}
}

// P15.2 with P0.4: each All is new memory.
func TestAllNewMemory(t *testing.T) {
	for n := range 20 {
		all := files(3, n)
		l := with(t, all...)
		one, other := l.All(), l.All()
		want := slices.Clone(one)
		clear(one[:cap(one)])
		_ = append(one, 9, 9, 9)
		l.Put(file(1))
		if !slices.Equal(other, want) {
			t.Fatal(other, want)
		}
		wantTable(t, l, append(all, file(1))...)
	}
}

// P15.2: a clone is as the table is now, its numbers too; what is done to one of them the other one doesn't show.
func TestCloneTable(t *testing.T) {
	for n := range 20 {
		was := files(3, n)
		for _, turned := range []bool{false, true} {
			l := with(t, append(was, file(99))...)
			l.Del(99)
			c := l.Clone()
			wantTable(t, c, was...)
			one, other := l, c
			if turned {
				one, other = c, l
			}
			wantNew(t, one, api.File, 100)
			wantPut(t, one, file(200), nil)
			wantTable(t, other, was...)
			wantNew(t, other, api.Link, 100)
			wantNew(t, one, api.File, 201)
			wantNew(t, other, api.File, 101)
			for _, x := range was {
				wantPut(t, one, fresh(x.ID, api.Dir), nil)
			}
			now := append(slices.Clone(was), fresh(100, api.Link), fresh(101, api.File))
			wantTable(t, other, now...)
			for _, id := range one.All() {
				one.Del(id)
			}
			wantTable(t, other, now...)
			wantTable(t, one)
		}
	}
}

// P15.2: scripts of calls, held against a table in no order.
func TestTableScripts(t *testing.T) {
	for seed := range 200 {
		script := make([]byte, 1200)
		rand.New(rand.NewSource(int64(seed))).Read(script)
		runScript(t, script)
	}
}

// fill has about so many nodes in both.
func fill(l *Table, s *slow, n int) {
	for i := range n {
		l.Put(file(2*i + 1))
		s.put(file(2*i + 1))
	}
}

// runScript does a call for each three bytes, and the same to a slow table. The first byte tells whether that is near to full.
func runScript(t *testing.T, script []byte) {
	t.Helper()
	l, s := new(Table), new(slow)
	if len(script) > 0 && script[0]%4 == 0 {
		fill(l, s, api.MaxNodes-5)
	}
	for ; len(script) >= 3; script = script[3:] {
		id, k := int(script[1])%24, int(script[2])%5
		switch script[0] % 6 {
		case 0, 1:
			want, wantErr := s.new(k)
			if got, err := l.New(k); got != want || err != wantErr {
				t.Errorf("New(%d): %d, %v, not %d, %v", k, got, err, want, wantErr)
			}
		case 2:
			n := fresh(id, k)
			n.Links = int(script[2]) % 18
			wantPut(t, l, n, s.put(n))
		case 3:
			if got, want := l.Del(id), s.del(id); got != want {
				t.Errorf("Del(%d): %v", id, got)
			}
		case 4:
			old := l
			l = l.Clone()
			old.Del(id)
			old.New(api.File)
		case 5:
			if n := len(s.nodes); n > 0 {
				id = s.nodes[int(script[1])%n].ID
				l.Del(id)
				s.del(id)
			}
			if script[1] == 77 {
				id = most - 1 - int(script[2])%2
				wantPut(t, l, file(id), s.put(file(id)))
			}
		}
		if s.at(id) < 0 {
			wantNone(t, l, id)
		}
		wantTable(t, l, s.nodes...)
		if t.Failed() {
			return
		}
	}
}

// P0.1: any numbers, in a table that has some nodes.
func TestAnyNumbers(t *testing.T) {
	l := with(t, file(1), file(most))
	for _, id := range append(ids(), math.MaxInt32, math.MinInt32) {
		_, is := l.Get(id)
		if here := id == 1 || id == most; is != here {
			t.Errorf("Get(%d): %v", id, is)
		}
	}
}

// FuzzTables does any script, then asks for any number.
func FuzzTables(f *testing.F) {
	f.Add([]byte{4, 0, 0, 0, 0, 1, 0, 0, 2, 0, 0, 3, 1, 0, 1, 1, 0, 1}, 1, 1)
	f.Add([]byte{5, 77, 0, 0, 0, 1, 3, 1, 1, 0, 0, 1}, most, 2)
	f.Add([]byte{}, -1, 0)
	f.Fuzz(func(t *testing.T, script []byte, id, kind int) {
		runScript(t, script[:min(len(script), 900)])
		l, s := new(Table), new(slow)
		fill(l, s, 3)
		if want := s.del(id); l.Del(id) != want {
			t.Errorf("Del(%d), not %v", id, want)
		}
		wantNone(t, l, id)
		n := fresh(id, kind)
		wantPut(t, l, n, s.put(n))
		want, wantErr := s.new(kind)
		if got, err := l.New(kind); got != want || err != wantErr {
			t.Errorf("New(%d): %d, %v, not %d, %v", kind, got, err, want, wantErr)
		}
		wantTable(t, l, s.nodes...)
	})
}
