package geo

import (
	"math"
	"math/big"
	"math/rand"
	"slices"
	"testing"

	"breviary/api"
)

func of(t *testing.T, blocks int) api.Geo {
	t.Helper()
	g, err := Of(blocks)
	if err != nil {
		t.Fatal(blocks, err)
	}
	return g
}

// sizes are the least, the greatest, and some between: of each rest by 4, and around the one from which on Half grows no more.
func sizes() []int {
	return []int{300, 301, 302, 303, 304, 399, 400, 403, 1000, 1502, 2047, 2048, 2049, 2052, 5999, 6000}
}

// beside are places that no block has: below 0, and from the end on.
func beside(g api.Geo) []int {
	return []int{math.MinInt, math.MinInt + 1, -g.Blocks, -g.Half, -2, -1, g.Blocks, g.Blocks + 1, 2*g.Blocks + 1, 3 * g.Blocks, math.MaxInt - 1, math.MaxInt}
}

// P4.1: Of refuses what is not MinBlocks to MaxBlocks, and answers nothing beside.
func TestOfRange(t *testing.T) {
	for _, blocks := range []int{math.MinInt, -6000, -400, -300, -1, 0, 1, 75, 298, 299, 6001, 6002, 12000, 1 << 32, 1<<32 + 400, math.MaxInt} {
		if g, err := Of(blocks); err != api.ErrRange || g != (api.Geo{}) {
			t.Errorf("Of(%d): %v %v", blocks, g, err)
		}
	}
}

// P4.1: Half is a quarter, down, at most 512: of every device.
func TestOfEach(t *testing.T) {
	for blocks := 300; blocks <= 6000; blocks++ {
		half := 0
		for half < 512 && 4*(half+1) <= blocks {
			half++
		}
		if g, err := Of(blocks); err != nil || g != (api.Geo{Blocks: blocks, Half: half}) {
			t.Fatalf("Of(%d): %v %v, not Half %d", blocks, g, err, half)
		}
	}
	for _, c := range [][2]int{{300, 75}, {303, 75}, {304, 76}, {400, 100}, {403, 100}, {2044, 511}, {2047, 511}, {2048, 512}, {2051, 512}, {2052, 512}, {6000, 512}} {
		if g := of(t, c[0]); g.Half != c[1] {
			t.Errorf("Of(%d): Half %d, not %d", c[0], g.Half, c[1])
		}
	}
}

// P4.1: what each block is, counted block by block: the one half, the other, data.
func TestEachBlock(t *testing.T) {
	for _, blocks := range sizes() {
		g := of(t, blocks)
		for i := range blocks {
			partner, mirrored := i+g.Half, true
			if i >= g.Half {
				partner = i - g.Half
			}
			if i >= 2*g.Half {
				partner, mirrored = 0, false
			}
			if p, ok := Partner(g, i); p != partner || ok != mirrored {
				t.Fatalf("of %d, Partner(%d): %d %v", blocks, i, p, ok)
			}
			if Mirrored(g, i) != mirrored || Data(g, i) == mirrored {
				t.Fatalf("of %d, block %d: mirrored %v, data %v", blocks, i, Mirrored(g, i), Data(g, i))
			}
		}
	}
}

// P4.1: the partner of a partner is the block itself, and another one than it.
func TestPartnerBack(t *testing.T) {
	for _, blocks := range sizes() {
		g := of(t, blocks)
		for i := range 2 * g.Half {
			p, _ := Partner(g, i)
			if back, ok := Partner(g, p); back != i || !ok || p == i {
				t.Fatalf("of %d: %d, %d, %d %v", blocks, i, p, back, ok)
			}
		}
	}
}

// P4.1 with P0.7 and P0.3: a place that no block has is neither mirrored nor data, and has no partner.
func TestNoBlock(t *testing.T) {
	for _, blocks := range sizes() {
		g := of(t, blocks)
		for _, i := range beside(g) {
			p, ok := Partner(g, i)
			if p != 0 || ok || Mirrored(g, i) || Data(g, i) {
				t.Errorf("of %d, %d: %d %v, mirrored %v, data %v", blocks, i, p, ok, Mirrored(g, i), Data(g, i))
			}
		}
	}
}

// P4.1: Datas is how many blocks are data.
func TestDatasCounted(t *testing.T) {
	for _, blocks := range sizes() {
		g := of(t, blocks)
		n := 0
		for i := -3; i < blocks+3; i++ {
			if Data(g, i) {
				n++
			}
		}
		if Datas(g) != n || n+2*g.Half != blocks {
			t.Errorf("of %d: %d, %d are counted", blocks, Datas(g), n)
		}
	}
	for _, c := range [][2]int{{300, 150}, {301, 151}, {303, 153}, {400, 200}, {403, 203}, {2047, 1025}, {2048, 1024}, {2049, 1025}, {6000, 4976}} {
		if n := Datas(of(t, c[0])); n != c[1] {
			t.Errorf("of %d: %d, not %d", c[0], n, c[1])
		}
	}
}

// P4.2: Quota is the lesser one of both; of Of's geometries that always is what Half leaves.
func TestQuota(t *testing.T) {
	for _, c := range [][2]int{{300, 15}, {303, 15}, {304, 16}, {400, 40}, {403, 40}, {1000, 190}, {1500, 315}, {2044, 451}, {2047, 451}, {2048, 452}, {2052, 452}, {6000, 452}} {
		if n := Quota(of(t, c[0])); n != c[1] {
			t.Errorf("of %d: %d, not %d", c[0], n, c[1])
		}
	}
	for blocks := 300; blocks <= 6000; blocks++ {
		g := of(t, blocks)
		least := (blocks-2*g.Half)/2 - 8
		if g.Half-60 < least {
			least = g.Half - 60
		}
		if n := Quota(g); n != least || n < 15 {
			t.Fatalf("of %d: %d, not %d", blocks, n, least)
		}
	}
}

// P4.2: where the data are few it is they that bound the quota; it is never below 0.
func TestQuotaEachBound(t *testing.T) {
	for _, c := range []struct{ blocks, half, want int }{
		{200, 61, 1}, {200, 60, 0}, {200, 59, 0}, {200, 0, 0},
		{218, 100, 1}, {219, 100, 1}, {220, 100, 2}, {217, 100, 0}, {216, 100, 0}, {200, 100, 0}, {201, 100, 0},
		{296, 100, 40}, {295, 100, 39}, {294, 100, 39}, {293, 100, 38}, {298, 100, 40},
		{0, 0, 0}, {0, 100, 0}, {100, 0, 0}, {-300, 75, 0}, {300, -75, 0},
	} {
		if n := Quota(api.Geo{Blocks: c.blocks, Half: c.half}); n != c.want {
			t.Errorf("of %d, Half %d: %d, not %d", c.blocks, c.half, n, c.want)
		}
	}
}

// P4.1: Paired of two blocks: for each two of a device.
func TestPairedTwo(t *testing.T) {
	g := of(t, 300)
	for i := -80; i < 380; i++ {
		for k := -80; k < 380; k++ {
			want := i >= 0 && i < 75 && k == i+75 || k >= 0 && k < 75 && i == k+75
			if Paired(g, i, k) != want {
				t.Fatalf("Paired(%d, %d): %v", i, k, !want)
			}
		}
	}
}

// P4.1: Paired of none, of one, of one again and again, of all but the partners.
func TestPairedNot(t *testing.T) {
	for _, blocks := range sizes() {
		g := of(t, blocks)
		var low, high, data []int
		for i := range g.Half {
			low, high = append(low, i), append(high, g.Half+i)
		}
		for i := 2 * g.Half; i < blocks; i++ {
			data = append(data, i)
		}
		crossed := slices.Concat(low[:g.Half/2], high[g.Half/2:])
		for k, l := range [][]int{nil, {}, {0}, {g.Half}, {0, 0}, {g.Half, g.Half}, low, high, data, beside(g), slices.Concat(low, data, beside(g), low), slices.Concat(beside(g), high, data, high), slices.Concat(data, crossed)} {
			if Paired(g, l...) {
				t.Errorf("of %d, list %d: paired", blocks, k)
			}
			if !Paired(g, slices.Concat(l, []int{0, g.Half})...) {
				t.Errorf("of %d, list %d, and 0 and its partner: not paired", blocks, k)
			}
		}
	}
}

// P4.1: Paired finds the two wherever they stand among the others, in either order; what it is handed stays as it is.
func TestPairedAmongOthers(t *testing.T) {
	g := of(t, 2048)
	for _, i := range []int{0, 1, 255, 510, 511} {
		room := slices.Repeat([]int{-7}, 1540)
		l := room[:0]
		for k := range 2048 {
			if k >= 1024 || k < 512 && k != i {
				l = append(l, k)
			}
		}
		if Paired(g, l...) {
			t.Error(i, "is not among them, nor any partner")
		}
		for _, places := range [][2]int{{0, 1534}, {1534, 0}, {700, 701}, {701, 700}, {0, 1}, {1534, 1533}} {
			l[places[0]], l[places[1]] = i, i+512
			handed := slices.Clone(room)
			if !Paired(g, l...) {
				t.Error(i, places, "not paired")
			}
			if !slices.Equal(room, handed) {
				t.Error(i, places, "what was handed in is changed")
			}
			l[places[0]], l[places[1]] = 2000, 2000
			if Paired(g, l...) {
				t.Error(i, places, "are gone")
			}
		}
	}
}

// slowPaired looks for each block's partner all through the list.
func slowPaired(g api.Geo, l []int) bool {
	for _, i := range l {
		if i >= 0 && i < g.Half && slices.Contains(l, i+g.Half) {
			return true
		}
	}
	return false
}

// P4.1: Paired of lists by chance, as many paired as not.
func TestPairedAsSlow(t *testing.T) {
	r := rand.New(rand.NewSource(4))
	was := [2]int{}
	for range 20000 {
		g := of(t, 300+r.Intn(200))
		l := make([]int, r.Intn(60))
		for k := range l {
			l[k] = r.Intn(g.Blocks+20) - 10
		}
		want := slowPaired(g, l)
		if Paired(g, l...) != want {
			t.Fatalf("of %d, Paired(%v): %v", g.Blocks, l, !want)
		}
		if want {
			was[1]++
		} else {
			was[0]++
		}
	}
	if was[0] < 3000 || was[1] < 3000 {
		t.Error("the lists are all alike:", was)
	}
}

// P0.1: a long list ends soon: a million blocks, none of them paired.
func TestPairedLong(t *testing.T) {
	g := of(t, 6000)
	l := make([]int, 1<<20)
	for k := range l {
		l[k] = k % 512
	}
	if Paired(g, l...) {
		t.Error("paired")
	}
	l[len(l)-1] = 512
	if !Paired(g, l...) {
		t.Error("not paired")
	}
}

// odd are numbers for geometries that Of does not make.
func odd() []int {
	return []int{math.MinInt, math.MinInt + 1, math.MinInt + 60, math.MinInt / 2, math.MinInt/2 - 1, -301, -60, -2, -1, 0, 1, 2, 3, 5, 6, 59, 60, 61, 100, 119, 120, 121, 299, 300, math.MaxInt / 2, math.MaxInt/2 + 1, math.MaxInt - 60, math.MaxInt - 1, math.MaxInt}
}

// slowGeo is a geometry in numbers without bounds.
type slowGeo struct{ blocks, half, end *big.Int }

func slow(g api.Geo) slowGeo {
	half := big.NewInt(int64(g.Half))
	return slowGeo{big.NewInt(int64(g.Blocks)), half, new(big.Int).Add(half, half)}
}

func (s slowGeo) there(i *big.Int) bool { return i.Sign() >= 0 && i.Cmp(s.blocks) < 0 }

func (s slowGeo) partner(i *big.Int) (int, bool) {
	p := new(big.Int)
	switch {
	case i.Cmp(s.half) < 0:
		p.Add(i, s.half)
	case i.Cmp(s.end) < 0:
		p.Sub(i, s.half)
	default:
		return 0, false
	}
	if !s.there(i) || !s.there(p) {
		return 0, false
	}
	return int(p.Int64()), true
}

func (s slowGeo) datas() *big.Int {
	n := new(big.Int).Set(s.blocks)
	if s.end.Sign() > 0 {
		n.Sub(n, s.end)
	}
	if n.Sign() < 0 {
		n.SetInt64(0)
	}
	return n
}

func (s slowGeo) quota() int {
	n := new(big.Int).Rsh(s.datas(), 1)
	n.Sub(n, big.NewInt(8))
	if m := new(big.Int).Sub(s.half, big.NewInt(60)); m.Cmp(n) < 0 {
		n = m
	}
	if n.Sign() < 0 {
		return 0
	}
	return int(n.Int64())
}

// P0.1, P0.6 and P0.7: a geometry that Of does not make is held by the same sentences, without bounds; a place past its end is none, a partner's too.
func TestOddGeometries(t *testing.T) {
	for _, blocks := range odd() {
		for _, half := range odd() {
			g := api.Geo{Blocks: blocks, Half: half}
			s := slow(g)
			if n := Datas(g); int64(n) != s.datas().Int64() {
				t.Fatalf("%v: %d data", g, n)
			}
			if n := Quota(g); n != s.quota() {
				t.Fatalf("%v: quota %d, not %d", g, n, s.quota())
			}
			for _, i := range odd() {
				oddPlace(t, g, s, i)
			}
		}
	}
}

func oddPlace(t *testing.T, g api.Geo, s slowGeo, i int) {
	t.Helper()
	at := big.NewInt(int64(i))
	partner, mirrored := s.partner(at)
	if p, ok := Partner(g, i); p != partner || ok != mirrored || Mirrored(g, i) != mirrored {
		t.Fatalf("%v, Partner(%d): %d %v, not %d %v", g, i, p, ok, partner, mirrored)
	}
	if Data(g, i) != (s.there(at) && at.Cmp(s.end) >= 0) {
		t.Fatalf("%v, Data(%d): %v", g, i, Data(g, i))
	}
	for _, k := range odd() {
		if Paired(g, i, k) != (mirrored && k == partner) {
			t.Fatalf("%v, Paired(%d, %d): %v", g, i, k, Paired(g, i, k))
		}
	}
}
