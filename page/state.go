package page

import (
	"slices"

	"breviary/api"
	"breviary/geo"
	"breviary/pair"
	"breviary/root"
)

const (
	copies     = 2 // of each block
	rootPlaces = 2 // the blocks 0 and 1: roots of even Epochs, and of odd ones
	addrBits   = 16
	refSize    = 6                                  // bytes: an address of 16 bits, a sum of 32
	slots      = api.BlockSize / refSize            // Refs in an index
	indexCount = (api.MaxPages + slots - 1) / slots // for all pages
	lengthSize = 1                                  // of a page's bytes: api.PageSize has 8 bits
)

// state is what a Commit leaves: how many there were, and where all lies. A Ref to block 0 points to nothing: that block is a root's.
type state struct {
	epoch   int64
	indexes [indexCount]api.Ref // the k-th has the Refs of the pages from k * slots on
	pages   [api.MaxPages]api.Ref
}

// stateOf is the state that r points to. What no Commit leaves is as bad as what can't be read.
func stateOf(p *pair.Pairs, r root.Root) (state, error) {
	out := state{epoch: r.Epoch}
	if len(r.Refs) != indexCount {
		return state{}, api.ErrIO
	}
	copy(out.indexes[:], r.Refs)
	if !out.sound(p.Geo()) {
		return state{}, api.ErrIO
	}
	for k, ref := range out.indexes {
		if !points(ref) {
			continue
		}
		b, err := p.Read(ref)
		if err != nil {
			return state{}, err
		}
		out.takeIndex(k, b)
	}
	if !out.sound(p.Geo()) {
		return state{}, api.ErrIO
	}
	return out, nil
}

// root is what points to s.
func (s *state) root() root.Root {
	return root.Root{Epoch: s.epoch, Refs: slices.Clone(s.indexes[:])}
}

// refs are those that point to something: the indexes' ones first.
func (s *state) refs() []api.Ref {
	return slices.DeleteFunc(slices.Concat(s.indexes[:], s.pages[:]), func(r api.Ref) bool { return !points(r) })
}

// used are the blocks that s takes, rising; the roots' are taken by every one.
func (s *state) used() []int {
	var out []int
	for i := range rootPlaces {
		out = append(out, i)
	}
	for _, ref := range s.refs() {
		out = append(out, ref.Addr)
	}
	slices.Sort(out)
	return out
}

// sound tells whether all that s takes lies in the first half, and nothing where something else does.
func (s *state) sound(g api.Geo) bool {
	used := s.used()
	return used[len(used)-1] < g.Half && len(slices.Compact(used)) == len(used)
}

// indexBlock is index k as a block has it.
func (s *state) indexBlock(k int) []byte {
	out := make([]byte, 0, api.BlockSize)
	for _, ref := range s.pages[k*slots : endOf(k)] {
		out = appendRef(out, ref)
	}
	return out[:api.BlockSize]
}

// takeIndex has s take its Refs of index k from a block.
func (s *state) takeIndex(k int, b []byte) {
	for p := k * slots; p < endOf(k); p++ {
		s.pages[p], b = firstRef(b)
	}
}

// endOf is the page behind index k's last one.
func endOf(k int) int { return min((k+1)*slots, api.MaxPages) }

func points(r api.Ref) bool { return r.Addr > 0 }

func isNumber(p int) bool { return p >= 0 && p < api.MaxPages }

// places are a block of the first half and its partner.
func places(g api.Geo, i int) [copies]int {
	partner, _ := geo.Partner(g, i)
	return [copies]int{i, partner}
}

// blank tells whether a block is as on a new device.
func blank(b []byte) bool {
	return !slices.ContainsFunc(b, func(c byte) bool { return c != 0 })
}

// appendRef lays r behind b as one number, its lowest byte first.
func appendRef(b []byte, r api.Ref) []byte {
	n := uint64(r.Addr) | uint64(r.Sum)<<addrBits
	for i := range refSize {
		b = append(b, byte(n>>(8*i)))
	}
	return b
}

// firstRef is the Ref that b begins with, and what is behind it.
func firstRef(b []byte) (api.Ref, []byte) {
	n := uint64(0)
	for i, c := range b[:refSize] {
		n |= uint64(c) << (8 * i)
	}
	return api.Ref{Addr: int(n % (1 << addrBits)), Sum: uint32(n >> addrBits)}, b[refSize:]
}

// pageBlock is a page as a block has it: how many bytes, then these.
func pageBlock(b []byte) []byte {
	out := make([]byte, api.BlockSize)
	out[0] = byte(len(b))
	copy(out[lengthSize:], b)
	return out
}

// pageOf is the page that a block has. One that no Commit writes can't be read.
func pageOf(b []byte) ([]byte, error) {
	n := int(b[0])
	if n < 1 || n > api.PageSize {
		return nil, api.ErrIO
	}
	return slices.Clone(b[lengthSize:][:n]), nil
}
