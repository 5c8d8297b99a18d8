package keep

import (
	"maps"
	"math/rand"
	"slices"
	"strconv"
	"strings"
	"testing"

	"breviary/api"
	"breviary/dev"
)

// sizes are devices' blocks, and their Half: the least, the greatest, and some between.
func sizes() [][2]int {
	return [][2]int{{300, 75}, {303, 75}, {304, 76}, {400, 100}, {801, 200}, {1200, 300}, {1204, 301}, {2047, 511}, {2048, 512}, {6000, 512}}
}

// sized is the i-th of a turn's keys, of so many bytes, but at least those that tell it from the others.
func sized(turn, i, n int) string {
	out := strconv.Itoa(i*7919%10007) + "." + strconv.Itoa(turn)
	return out + strings.Repeat("k", max(n-len(out), 0))
}

// row is keys of a turn, with their values: all of a kind.
type row struct {
	name string
	has  func(turn, i int) (key, value string)
}

// rowsOf60 are keys that have, with their values, at most 60 bytes.
func rowsOf60() []row {
	together := func(key string) (string, string) { return key, strings.Repeat("v", 60-len(key)) }
	return []row{
		{"short keys", func(turn, i int) (string, string) { return together(sized(turn, i, 1)) }},
		{"long keys", func(turn, i int) (string, string) { return together(sized(turn, i, api.MaxKey)) }},
		{"keys of each length", func(turn, i int) (string, string) { return together(sized(turn, i, (i+turn)%41)) }},
		{"all less", func(turn, i int) (string, string) { return sized(turn, i, i%41), strings.Repeat("v", i%20) }},
		{"one less, one not", func(turn, i int) (string, string) {
			key, value := together(sized(turn, i, (i+turn)%41))
			return key, value[:len(value)*(i%2)]
		}},
	}
}

// all are the first n of a turn's.
func (r row) all(turn, n int) keys {
	out := keys{}
	for i := range n {
		key, value := r.has(turn, i)
		out[key] = value
	}
	return out
}

// fits holds that a Commit of n of a row's keys is never ErrFull: all at once, one by one, others instead of them, less and more again.
func fits(t *testing.T, blocks, n int, r row) {
	t.Helper()
	d, k := fresh(t, blocks)
	for turned := range 4 {
		want := r.all(turned, n)
		if len(want) != n {
			t.Fatal(r.name, len(want), "keys, not", n)
		}
		turn(t, k, want)
		has(t, opened(t, d), want)
		well(t, k)
	}
	one := r.all(3, n)
	x := rand.New(rand.NewSource(int64(n)))
	for count := range 3 * n {
		i := x.Intn(n)
		was, _ := r.has(3+count/n, i)
		key, value := r.has(4+count/n, i)
		k.Del([]byte(was))
		delete(one, was)
		if len(one) < n {
			put(t, k, keys{key: value})
			one[key] = value
		}
		if x.Intn(8) == 0 || n < 100 {
			commits(t, k, nil)
		}
	}
	commits(t, k, nil)
	has(t, opened(t, d), one)
	thinned(t, d, k, r, n)
}

// thinned has ever other ones of a row's keys stay, and fills them up again.
func thinned(t *testing.T, d *dev.Device, k *Keep, r row, n int) {
	t.Helper()
	for step := 2; step < 7; step++ {
		all := r.all(step, n)
		turn(t, k, all)
		for i, key := range slices.Sorted(maps.Keys(all)) {
			if i%step > 0 {
				del(t, k, key)
			}
		}
		commits(t, k, nil)
		well(t, k)
		for _, key := range mixed(all) {
			put(t, k, keys{key: all[key]})
			if n < 100 {
				commits(t, k, nil)
			}
		}
		commits(t, k, nil)
		has(t, opened(t, d), all)
	}
}

// P8.3: as many keys as Half less 40, each of at most 60 bytes with its value, always find room.
func TestRoom(t *testing.T) {
	for _, x := range sizes() {
		for _, r := range rowsOf60() {
			fits(t, x[0], x[1]-40, r)
		}
	}
}

// P8.3, read the other way: the value alone has 60 bytes, and the key as many as it may.
func TestRoomOfValues(t *testing.T) {
	for _, x := range sizes() {
		fits(t, x[0], x[1]-40, row{"of 60", func(turn, i int) (string, string) {
			return sized(turn, i, api.MaxKey), strings.Repeat("v", 60)
		}})
	}
}

// P8.3: where Half is 300 and more, 60 keys find room, whatever their values.
func TestRoomOf60(t *testing.T) {
	for _, x := range sizes() {
		if x[1] < 300 {
			continue
		}
		for _, r := range []row{
			{"all whole", func(turn, i int) (string, string) {
				return sized(turn, i, api.MaxKey), strings.Repeat("v", api.MaxValue)
			}},
			{"short keys", func(turn, i int) (string, string) {
				return sized(turn, i, 1), strings.Repeat("v", api.MaxValue)
			}},
			{"whole, and next to nothing", func(turn, i int) (string, string) {
				return sized(turn, i, (i+turn)%2*api.MaxKey), strings.Repeat("v", (i+turn)%2*api.MaxValue)
			}},
			{"each length", func(turn, i int) (string, string) {
				return sized(turn, i, i*turn%41), strings.Repeat("v", i*59*(turn+1)%121)
			}},
		} {
			fits(t, x[0], 60, r)
		}
	}
}
