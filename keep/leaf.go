package keep

import (
	"slices"
	"strings"

	"breviary/api"
	"breviary/page"
	"breviary/wire"
)

const none = -1 // the page of a leaf that has none yet

// record is a key with its value: as texts, which never change, so that whoever copies it may share them.
type record struct{ key, value string }

// leaf is what lies on one page: records, rising. It is whole in itself, so the other ones can be read without it; in which order leaves stand their first keys tell.
type leaf struct {
	page    int
	records []record // never none; not changed: other leaves may share their memory
}

// leavesOf is how the keys of s lie on its pages. All pages are read first: one that can't be comes ahead of one that is no keys' page.
func leavesOf(s *page.Store) ([]leaf, error) {
	pages := s.Pages()
	var has [][]byte
	for _, p := range pages {
		b, err := s.Read(p)
		if err != nil {
			return nil, err
		}
		has = append(has, b)
	}
	var out []leaf
	for i, p := range pages {
		records, err := told(has[i])
		if err != nil {
			return nil, err
		}
		out = append(out, leaf{page: p, records: records})
	}
	slices.SortFunc(out, func(a, b leaf) int { return strings.Compare(a.records[0].key, b.records[0].key) })
	if !rising(recordsOf(out)) {
		return nil, api.ErrShape
	}
	return out, nil
}

// recordsOf is what all leaves have, in memory of its own.
func recordsOf(leaves []leaf) []record {
	var out []record
	for _, l := range leaves {
		out = append(out, l.records...)
	}
	return out
}

// rising tells whether each key is behind the one ahead of it; the first one, behind the empty text, which is no key.
func rising(records []record) bool {
	last := ""
	for _, r := range records {
		if r.key <= last {
			return false
		}
		last = r.key
	}
	return true
}

// find is where key stands among records, or would; whether it is there.
func find(records []record, key string) (int, bool) {
	return slices.BinarySearchFunc(records, key, func(r record, key string) int { return strings.Compare(r.key, key) })
}

// relaid are records on leaves that are the old ones where nothing was changed: each record goes to the leaf among whose keys its own belongs.
func relaid(old []leaf, records []record) []leaf {
	var out []leaf
	for n, l := range old {
		end := len(records)
		if n+1 < len(old) {
			end, _ = find(records, old[n+1].records[0].key)
		}
		out = added(out, l.page, records[:end])
		records = records[end:]
	}
	return added(out, none, records) // some are left only where there is no old leaf
}

// packed are records on as few leaves as may be.
func packed(records []record) []leaf { return added(nil, none, records) }

// added are the leaves with the records behind them: with the last leaf's, where that has room, else on pages of their own, the first one on page p. So no two leaves that stand side by side would find room on one page.
func added(leaves []leaf, p int, records []record) []leaf {
	for _, part := range cut(records) {
		if last := len(leaves) - 1; last >= 0 && size(leaves[last].records...)+size(part...) <= api.PageSize {
			leaves[last].records = slices.Concat(leaves[last].records, part)
		} else {
			leaves = append(leaves, leaf{page: p, records: part})
		}
		p = none
	}
	return leaves
}

// cut is records in parts, each one as many of them as a page has room for. There is always room for one.
func cut(records []record) [][]record {
	var out [][]record
	begin, left := 0, api.PageSize
	for i, r := range records {
		if size(r) > left {
			out = append(out, records[begin:i])
			begin, left = i, api.PageSize
		}
		left -= size(r)
	}
	if begin < len(records) {
		out = append(out, records[begin:])
	}
	return out
}

// number gives each leaf that has no page the least one that is no other leaf's. There are enough for all.
func number(leaves []leaf) {
	taken := byPage(leaves)
	p := 0
	for i, l := range leaves {
		if l.page != none {
			continue
		}
		for len(taken[p]) > 0 {
			p++
		}
		leaves[i].page = p
		p++
	}
}

// byPage is what each page has.
func byPage(leaves []leaf) [api.MaxPages][]record {
	var out [api.MaxPages][]record
	for _, l := range leaves {
		if l.page != none {
			out[l.page] = l.records
		}
	}
	return out
}

// size is how many bytes of a page records take.
func size(records ...record) int {
	n := 0
	for _, r := range records {
		n += len(laid([]record{r}))
	}
	return n
}

// laid is a page: each key, and its value behind it.
func laid(records []record) []byte {
	var out []byte
	for _, r := range records {
		out = wire.PutText(wire.PutText(out, r.key), r.value)
	}
	return out
}

// told are the records that a page has; ErrShape: it has something else.
func told(b []byte) ([]record, error) {
	var out []record
	r := wire.NewReader(b)
	for r.Err() == nil && r.Left() > 0 {
		key := r.Text(api.MaxKey)
		out = append(out, record{key: key, value: r.Text(api.MaxValue)})
	}
	if r.Err() != nil {
		return nil, api.ErrShape
	}
	return out, nil
}
