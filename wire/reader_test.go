package wire

import (
	"bytes"
	"math"
	"math/big"
	"slices"
	"strings"
	"testing"

	"breviary/api"
)

// ask is a call of a reader: what is asked, and what the call answers.
type ask struct {
	name      string
	low, high int64 // of a number; of a text high is the most bytes
}

type answer struct {
	num  int64
	text string
	yes  bool
}

func (a ask) of(r *Reader) answer {
	switch a.name {
	case "num":
		return answer{num: r.Num(a.low, a.high)}
	case "text":
		return answer{text: r.Text(int(a.high))}
	}
	return answer{yes: r.Bool()}
}

// wantStopped says where r has not stopped at place around want, or goes on behind it.
func wantStopped(t *testing.T, what string, r *Reader, place int, want error) {
	t.Helper()
	err := r.Err()
	at, ok := err.(*api.At)
	if !ok || at.Pos != place || at.Err != want {
		t.Errorf("%s: %v, not %d: %v", what, err, place, want)
		return
	}
	for range 2 {
		n, s, s0 := r.Num(math.MinInt64, math.MaxInt64), r.Text(math.MaxInt), r.Text(0)
		if n != 0 || s != "" || s0 != "" || r.Bool() {
			t.Errorf("%s: behind the error: %d, %q, %q", what, n, s, s0)
		}
		r.Num(5, 4)
		r.Text(-1)
		if r.At() != place || r.Left() != 0 || r.Err() != err || *at != (api.At{Pos: place, Err: want}) {
			t.Errorf("%s: behind the error: at %d, left %d, %v", what, r.At(), r.Left(), r.Err())
		}
	}
}

func wantGoesOn(t *testing.T, what string, r *Reader, at, left int) {
	t.Helper()
	if r.At() != at || r.Left() != left || r.Err() != nil {
		t.Errorf("%s: at %d, left %d, %v; not at %d, left %d", what, r.At(), r.Left(), r.Err(), at, left)
	}
}

// heads are what may have been read ahead: nothing, and some numbers of one byte.
func heads() [][]byte {
	return [][]byte{nil, {0}, {2, 4, 6}}
}

// behind is a reader of head and b that has read head.
func behind(head, b []byte) *Reader {
	r := NewReader(slices.Concat(head, b))
	for range head {
		r.Num(0, 63)
	}
	return r
}

// P1.2: numbers come back as they were put, one behind the other.
func TestNumBack(t *testing.T) {
	var all []byte
	for _, n := range edges() {
		all = append(all, slowPut(n)...)
	}
	r := NewReader(all)
	at := 0
	for _, n := range edges() {
		if got := r.Num(math.MinInt64, math.MaxInt64); got != n {
			t.Fatalf("%d is read as %d", n, got)
		}
		at += len(slowPut(n))
		wantGoesOn(t, "numbers", r, at, len(all)-at)
	}
	r.Num(math.MinInt64, math.MaxInt64)
	wantStopped(t, "behind the last number", r, len(all), api.ErrEnd)
}

// P1.2: low and high are themselves in range; just beyond them is ErrRange.
func TestNumRange(t *testing.T) {
	for _, head := range heads() {
		for _, n := range edges() {
			b := slowPut(n)
			for _, bounds := range [][2]int64{{n, n}, {math.MinInt64, n}, {n, math.MaxInt64}} {
				r := behind(head, b)
				if got := r.Num(bounds[0], bounds[1]); got != n {
					t.Errorf("%d in %v: %d", n, bounds, got)
				}
				wantGoesOn(t, "in range", r, len(head)+len(b), 0)
			}
			var beyond [][2]int64
			if n < math.MaxInt64 {
				beyond = append(beyond, [2]int64{n + 1, math.MaxInt64}, [2]int64{n + 1, n - 1}, [2]int64{math.MaxInt64, n})
			}
			if n > math.MinInt64 {
				beyond = append(beyond, [2]int64{math.MinInt64, n - 1}, [2]int64{n, math.MinInt64})
			}
			for _, bounds := range beyond {
				r := behind(head, append(slices.Clone(b), 0, 0))
				if got := r.Num(bounds[0], bounds[1]); got != 0 {
					t.Errorf("%d in %v: %d", n, bounds, got)
				}
				wantStopped(t, "out of range", r, len(head), api.ErrRange)
			}
		}
	}
}

// P1.2: cut off anywhere it is ErrEnd, whatever the range.
func TestNumCutOff(t *testing.T) {
	for _, head := range heads() {
		for _, n := range edges() {
			b := slowPut(n)
			for cut := range b {
				for _, bounds := range [][2]int64{{math.MinInt64, math.MaxInt64}, {1, 0}} {
					r := behind(head, b[:cut])
					if got := r.Num(bounds[0], bounds[1]); got != 0 {
						t.Errorf("%v: %d", b[:cut], got)
					}
					wantStopped(t, "cut off", r, len(head), api.ErrEnd)
				}
			}
		}
	}
}

// P1.2: the tenth byte is 1; the other ones are ErrShape, whatever lies behind, whatever the range.
func TestNumTenthByte(t *testing.T) {
	for _, fill := range []byte{128, 129, 254, 255} {
		for c := range 256 {
			for _, tail := range [][]byte{nil, {0}, {1}, {128, 1}, {255, 255, 255}} {
				b := append(bytes.Repeat([]byte{fill}, 9), byte(c))
				r := behind([]byte{0}, append(slices.Clone(b), tail...))
				n := r.Num(math.MinInt64, math.MaxInt64)
				if c == 1 {
					if !slices.Equal(slowPut(n), b) {
						t.Errorf("%v: %d", b, n)
					}
					wantGoesOn(t, "the tenth byte", r, 11, len(tail))
					continue
				}
				if n != 0 {
					t.Errorf("%v: %d", b, n)
				}
				wantStopped(t, "the tenth byte", r, 1, api.ErrShape)
				r = behind([]byte{0}, append(slices.Clone(b), tail...))
				r.Num(1, 0)
				wantStopped(t, "the tenth byte, no range", r, 1, api.ErrShape)
			}
		}
	}
}

// P1.2: a 0 that is not the first byte is ErrShape, whatever the range; the first may be one.
func TestNumLateZero(t *testing.T) {
	for _, fill := range []byte{128, 129, 255} {
		for ahead := 1; ahead <= 9; ahead++ {
			for _, bounds := range [][2]int64{{math.MinInt64, math.MaxInt64}, {0, 0}, {9, 0}} {
				r := behind([]byte{2}, append(bytes.Repeat([]byte{fill}, ahead), 0, 0, 0))
				if got := r.Num(bounds[0], bounds[1]); got != 0 {
					t.Errorf("%d bytes of %d, 0: %d", ahead, fill, got)
				}
				wantStopped(t, "a late 0", r, 1, api.ErrShape)
			}
		}
	}
	r := NewReader([]byte{0})
	if r.Num(0, 0) != 0 {
		t.Error("a first 0 is not 0")
	}
	wantGoesOn(t, "a first 0", r, 1, 0)
}

// P1.2: texts come back as they were put: just as many bytes as may be, and fewer.
func TestTextBack(t *testing.T) {
	for _, head := range heads() {
		for _, s := range []string{"", "a", "\x00\x80\xff", "\u00fc\u20ac", strings.Repeat("x", 63), strings.Repeat("y", 64), strings.Repeat("\xff", 8192)} {
			count := slowPut(int64(len(s)))
			for _, most := range []int{len(s), len(s) + 1, math.MaxInt} {
				r := behind(head, slices.Concat(count, []byte(s), []byte{8}))
				if got := r.Text(most); got != s {
					t.Errorf("%d bytes: %q", len(s), got)
				}
				wantGoesOn(t, "a text", r, len(head)+len(count)+len(s), 1)
			}
		}
	}
}

// P1.2: one byte more than may be is ErrRange, also where the bytes are not there; so is a count below 0, and any where the most is below 0.
func TestTextRange(t *testing.T) {
	for _, head := range heads() {
		for _, size := range []int{0, 1, 2, 63, 64, 8192} {
			count, s := slowPut(int64(size)), bytes.Repeat([]byte{'x'}, size)
			for _, most := range []int{size - 1, -1, math.MinInt} {
				for _, b := range [][]byte{count, slices.Concat(count, s), slices.Concat(count, s, s)} {
					r := behind(head, b)
					if got := r.Text(most); got != "" {
						t.Errorf("%d bytes, at most %d: %q", size, most, got)
					}
					wantStopped(t, "a long text", r, len(head), api.ErrRange)
				}
			}
		}
		for _, n := range []int64{-1, -2, math.MinInt64} {
			r := behind(head, append(slowPut(n), 'a', 'b'))
			if got := r.Text(math.MaxInt); got != "" {
				t.Errorf("a text of %d: %q", n, got)
			}
			wantStopped(t, "a count below 0", r, len(head), api.ErrRange)
		}
	}
}

// P1.2: cut off anywhere, in its count or in its bytes, a text is ErrEnd at the count's first byte.
func TestTextCutOff(t *testing.T) {
	for _, head := range heads() {
		for _, size := range []int{1, 2, 63, 64, 200} {
			b := append(slowPut(int64(size)), bytes.Repeat([]byte{'x'}, size)...)
			for cut := range b {
				r := behind(head, b[:cut])
				if got := r.Text(size); got != "" {
					t.Errorf("%d of %d bytes: %q", cut, len(b), got)
				}
				wantStopped(t, "a text cut off", r, len(head), api.ErrEnd)
			}
		}
		for _, n := range []int64{3, 1 << 31, 1 << 32, 1 << 62, math.MaxInt64 - 1, math.MaxInt64} {
			r := behind(head, append(slowPut(n), 'a', 'b'))
			if got := r.Text(math.MaxInt); got != "" {
				t.Errorf("a text of %d: %q", n, got)
			}
			wantStopped(t, "a great count", r, len(head), api.ErrEnd)
		}
	}
}

// P1.2: a count that is no number.
func TestTextShape(t *testing.T) {
	for _, b := range [][]byte{{128, 0}, {130, 0, 'a'}, append(bytes.Repeat([]byte{255}, 9), 2, 'a')} {
		r := behind([]byte{2, 2}, b)
		if got := r.Text(99); got != "" {
			t.Errorf("%v: %q", b, got)
		}
		wantStopped(t, "a count's shape", r, 2, api.ErrShape)
	}
}

// P1.2: 0 is false, 1 is true, the other numbers are ErrRange.
func TestBool(t *testing.T) {
	r := NewReader([]byte{2, 0, 2, 2, 0})
	for i, want := range []bool{true, false, true, true, false} {
		if got := r.Bool(); got != want {
			t.Errorf("the %d-th is %v", i, got)
		}
		wantGoesOn(t, "bools", r, i+1, 4-i)
	}
	r.Bool()
	wantStopped(t, "behind the last bool", r, 5, api.ErrEnd)
	for _, c := range []struct {
		b    []byte
		want error
	}{
		{nil, api.ErrEnd}, {[]byte{130}, api.ErrEnd}, {[]byte{130, 0}, api.ErrShape}, {[]byte{1}, api.ErrRange}, {[]byte{3}, api.ErrRange},
		{[]byte{4}, api.ErrRange}, {[]byte{130, 1}, api.ErrRange}, {slowPut(math.MaxInt64), api.ErrRange}, {slowPut(math.MinInt64), api.ErrRange},
	} {
		r := behind([]byte{0, 2}, c.b)
		if r.Bool() {
			t.Errorf("%v is true", c.b)
		}
		wantStopped(t, "a bool", r, 2, c.want)
	}
}

// P1.2: a new reader stands at the beginning, and asking where does not move it.
func TestNewReader(t *testing.T) {
	for _, b := range [][]byte{nil, {}, {2}, {255, 255}, bytes.Repeat([]byte{0}, 1000)} {
		r := NewReader(b)
		for range 3 {
			wantGoesOn(t, "a new reader", r, 0, len(b))
		}
	}
}

// P1.2 with P0.4: a reader does not keep what is handed in, does not change it, and does not read the spare room behind it.
func TestReaderMemory(t *testing.T) {
	b := []byte{4, 'a', 'b', 128, 1, 2}
	r := NewReader(b)
	s := r.Text(2)
	clear(b)
	if s != "ab" || r.Num(0, 64) != 64 || !r.Bool() || r.Err() != nil {
		t.Error("a reader sees what became of its bytes:", s, r.Err())
	}
	b = []byte{4, 'a', 'b', 128, 1, 2}
	r = NewReader(b)
	r.Text(2)
	r.Num(0, 64)
	r.Bool()
	r.Bool()
	if !slices.Equal(b, []byte{4, 'a', 'b', 128, 1, 2}) {
		t.Error("a reader changes its bytes:", b)
	}
	r = NewReader([]byte{128, 1}[:1])
	r.Num(0, 99)
	wantStopped(t, "a number into spare room", r, 0, api.ErrEnd)
	r = NewReader([]byte{4, 'a', 'b'}[:2])
	r.Text(2)
	wantStopped(t, "a text into spare room", r, 0, api.ErrEnd)
	r = NewReader([]byte{2}[:0])
	r.Bool()
	wantStopped(t, "a bool in spare room", r, 0, api.ErrEnd)
}

// P1.2: readers of the same bytes know nothing of each other.
func TestReadersApart(t *testing.T) {
	b := []byte{2, 4, 6}
	one, other := NewReader(b), NewReader(b)
	one.Num(0, 9)
	one.Num(9, 9)
	wantStopped(t, "one", one, 1, api.ErrRange)
	wantGoesOn(t, "the other one", other, 0, 3)
	if other.Num(1, 1) != 1 || other.Num(2, 2) != 2 || other.Num(3, 3) != 3 {
		t.Error("the other one:", other.Err())
	}
}

// slowNum is the chapter's sentence on Num, in numbers without bounds.
func slowNum(b []byte, low, high int64) (n int64, size int, err error) {
	u := new(big.Int)
	for i := 0; ; i++ {
		if i >= len(b) {
			return 0, 0, api.ErrEnd
		}
		if i == 9 && b[i] > 1 || i > 0 && b[i] == 0 {
			return 0, 0, api.ErrShape
		}
		digit := big.NewInt(int64(b[i] & 127))
		u.Add(u, digit.Lsh(digit, uint(7*i)))
		size = i + 1
		if b[i] < 128 {
			break
		}
	}
	odd := u.Bit(0) == 1
	if odd {
		u.Add(u, big.NewInt(1)).Neg(u)
	}
	n = u.Quo(u, big.NewInt(2)).Int64()
	if n < low || n > high {
		return 0, 0, api.ErrRange
	}
	return n, size, nil
}

// slowAsk is what a asks of b, and how many bytes that takes.
func slowAsk(a ask, b []byte) (x answer, size int, err error) {
	switch a.name {
	case "num":
		x.num, size, err = slowNum(b, a.low, a.high)
		return x, size, err
	case "text":
		n, size, err := slowNum(b, 0, a.high)
		if err != nil {
			return x, 0, err
		}
		if n > int64(len(b)-size) {
			return x, 0, api.ErrEnd
		}
		return answer{text: string(b[size : size+int(n)])}, size + int(n), nil
	}
	n, size, err := slowNum(b, 0, 1)
	return answer{yes: n == 1}, size, err
}

// checkScript has one reader of b asked all of script, beside the slow ones.
func checkScript(t *testing.T, b []byte, script []ask) {
	t.Helper()
	r := NewReader(b)
	at := 0
	for _, a := range script {
		want, size, err := slowAsk(a, b[at:])
		if got := a.of(r); got != want {
			t.Fatalf("%v, %v at %d: %v, not %v", b, a, at, got, want)
		}
		if err != nil {
			wantStopped(t, a.name, r, at, err)
			return
		}
		at += size
		wantGoesOn(t, a.name, r, at, len(b)-at)
	}
}

func scripts() [][]ask {
	whole := ask{"num", math.MinInt64, math.MaxInt64}
	return [][]ask{
		{whole, whole, whole, whole, whole, whole},
		{{"num", -1, 64}, {"num", 0, 0}, {"num", 1, 0}},
		{{"text", 0, 2}, {"bool", 0, 0}, {"text", 0, 64}},
		{{"bool", 0, 0}, {"text", 0, math.MaxInt}, whole},
	}
}

// P1.2: all short bytes made of those that matter, and of each script as far as it goes.
func TestReaderAllShort(t *testing.T) {
	letters := []byte{0, 1, 2, 4, 126, 127, 128, 129, 255}
	level := [][]byte{nil}
	for range 5 {
		var next [][]byte
		for _, b := range level {
			for _, c := range letters {
				next = append(next, append(slices.Clone(b), c))
			}
			for _, script := range scripts() {
				checkScript(t, b, script)
			}
		}
		level = next
	}
}

// P1.2: whatever bytes: every call ends, none panics, all as the slow ones.
func FuzzReader(f *testing.F) {
	for _, n := range edges() {
		f.Add(append(slowPut(n), slowPut(-n)...))
	}
	f.Add(bytes.Repeat([]byte{255}, 30))
	f.Fuzz(func(t *testing.T, b []byte) {
		for _, script := range scripts() {
			checkScript(t, b, script)
		}
	})
}
