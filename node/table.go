package node

import (
	"maps"
	"slices"

	"breviary/api"
)

// Table is nodes by their IDs; the zero value has none.
type Table struct {
	nodes    map[int]Node
	greatest int // the greatest ID that ever was here, also if it is gone: no number is given twice
}

// New sets an empty node of that kind in, and tells its ID.
func (t *Table) New(kind int) (int, error) {
	switch {
	case !isKind(kind):
		return 0, api.ErrRange
	case t.Len() >= api.MaxNodes, t.greatest >= mostID:
		return 0, api.ErrMany
	}
	n := empty(t.greatest+1, kind)
	t.set(n)
	return n.ID, nil
}

// Get is the node of that ID.
func (t *Table) Get(id int) (Node, bool) {
	n, is := t.nodes[id]
	return n, is
}

// Put sets n in, in the place of the one of its ID, if there is one.
func (t *Table) Put(n Node) error {
	if err := Valid(n); err != nil {
		return err
	}
	if _, is := t.nodes[n.ID]; !is && t.Len() >= api.MaxNodes {
		return api.ErrMany
	}
	t.set(n)
	return nil
}

// Del takes the node of that ID out; false: there is none.
func (t *Table) Del(id int) bool {
	_, is := t.nodes[id]
	delete(t.nodes, id)
	return is
}

// All is every ID, rising.
func (t *Table) All() []int { return slices.Sorted(maps.Keys(t.nodes)) }

// Len is how many nodes there are.
func (t *Table) Len() int { return len(t.nodes) }

// Clone is another table, as this one is now; it goes on with the same numbers.
func (t *Table) Clone() *Table {
	return &Table{nodes: maps.Clone(t.nodes), greatest: t.greatest}
}

// set has n in, whatever was there.
func (t *Table) set(n Node) {
	if t.nodes == nil {
		t.nodes = map[int]Node{}
	}
	t.nodes[n.ID] = n
	t.greatest = max(t.greatest, n.ID)
}

// empty is a node of no links, which has only what one of its kind can't be without.
func empty(id, kind int) Node {
	n := Node{ID: id, Kind: kind}
	switch kind {
	case api.Dir:
		n.Parent = api.RootNode
	case api.Link:
		n.Target = "/"
	}
	return n
}
