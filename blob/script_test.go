package blob

import (
	"bytes"
	"math/rand"
	"slices"
	"testing"

	"breviary/api"
	"breviary/crc"
	"breviary/dev"
)

const size = 300

// lefts are the blocks that a script begins with as left: few, so that they come round.
func lefts() []int { return []int{150, 151, 152, 170, 298, 299} }

// slowBlock is a block of the device, and of the area, as the chapters' sentences have it.
type slowBlock struct {
	flushed, written []byte // written: nil, if it is not pending
	faulted, cant    bool
	used, held       bool
}

// bytes are what can be read of it; nil: it can't be.
func (b *slowBlock) bytes() []byte {
	if b.written != nil {
		return b.written
	}
	if b.cant {
		return nil
	}
	return b.flushed
}

// last has what is pending flushed.
func (b *slowBlock) last() {
	if b.written != nil {
		b.flushed, b.written, b.faulted, b.cant = b.written, nil, false, false
	}
}

// script is an area, and what the chapter says of it. A Ref is held to what was put by it, not to a sum.
type script struct {
	t       *testing.T
	d       *dev.Device
	a       *Area
	blocks  map[int]*slowBlock // those of lefts, and of some that are in use from the beginning
	content map[api.Ref][]byte
	refs    []api.Ref
	last    int // the block that Put put last; 0: none
	armed   int
}

func newScript(t *testing.T) *script {
	d, a := made(t, size, but(lefts()...)...)
	s := &script{t: t, d: d, a: a, blocks: map[int]*slowBlock{}, content: map[api.Ref][]byte{}}
	for _, i := range slices.Concat(lefts(), []int{169, 171}) {
		s.blocks[i] = &slowBlock{flushed: full(0), used: i == 169 || i == 171}
		r := api.Ref{Addr: i, Sum: crc.Sum(full(0))}
		s.refs = append(s.refs, r)
		s.content[r] = full(0)
	}
	return s
}

// places are the blocks that a script asks for, rising.
func (s *script) places() []int {
	out := []int{}
	for i := range size {
		if s.blocks[i] != nil {
			out = append(out, i)
		}
	}
	return out
}

// left are the blocks that are neither in use nor held, rising.
func (s *script) left() []int {
	return slices.DeleteFunc(s.places(), func(i int) bool { return s.blocks[i].used || s.blocks[i].held })
}

// behind is the first of l, behind the block put last, round; 0: there is none.
func (s *script) behind(l []int) int {
	for _, i := range l {
		if i > s.last {
			return i
		}
	}
	return slices.Concat(l, []int{0})[0]
}

// power tells whether one more Write or Flush does well.
func (s *script) power() bool {
	if s.armed > 0 {
		s.armed--
		return s.armed > 0
	}
	return true
}

// same holds what Put or Low answered, and what has to come of b at a place (0: none).
func (s *script) same(r api.Ref, err error, b []byte, place int, none error) bool {
	s.t.Helper()
	want, e := api.Ref{}, none
	if place != 0 {
		e = api.ErrCrash
		if s.power() {
			want, e = api.Ref{Addr: place, Sum: crc.Sum(padded(b))}, nil
			s.blocks[place].written, s.blocks[place].used = padded(b), true
			s.refs = append(s.refs, want)
			s.content[want] = padded(b)
		}
	}
	if r != want || err != e {
		s.t.Fatalf("%v %v, not %v %v", r, err, want, e)
	}
	return place != 0 && e == nil
}

func (s *script) put(x, y byte) {
	s.t.Helper()
	b := rising(y)[:int(x)%257]
	place := s.behind(s.left())
	r, err := s.a.Put(b)
	if s.same(r, err, b, place, api.ErrFull) {
		s.last = place
	}
}

func (s *script) low(x, y byte) {
	s.t.Helper()
	b, below := rising(y), 150+int(x)
	if x%2 == 1 {
		below = s.places()[int(x)%len(s.places())] + int(y)%2
	}
	place := slices.Concat(s.left(), []int{0})[0]
	if place >= below {
		place = 0
	}
	r, ok, err := s.a.Low(b, below)
	if s.same(r, err, b, place, nil) != ok {
		s.t.Fatalf("Low below %d: %v", below, ok)
	}
}

func (s *script) get(r api.Ref) {
	s.t.Helper()
	want, err := s.content[r], error(nil)
	if !bytes.Equal(s.blocks[r.Addr].bytes(), want) {
		want, err = nil, api.ErrIO
	}
	gets(s.t, s.a, r, want, err)
}

func (s *script) drop(r api.Ref) {
	s.t.Helper()
	b := s.blocks[r.Addr]
	drops(s.t, s.a, r, b.used)
	b.used, b.held = false, b.held || b.used
}

func (s *script) done() {
	s.a.Done()
	for _, b := range s.blocks {
		b.held = false
	}
}

func (s *script) flush() {
	s.t.Helper()
	want := error(nil)
	if !s.power() {
		want = api.ErrCrash
	}
	if err := s.d.Flush(); err != want {
		s.t.Fatalf("Flush: %v, not %v", err, want)
	}
	if want == nil {
		for _, b := range s.blocks {
			b.last()
		}
	}
}

// fall crashes by the bits of x, and opens anew with what was in use, and what was held.
func (s *script) fall(x byte) {
	s.t.Helper()
	picks, used := []int{}, but(s.places()...)
	for _, i := range s.places() {
		b := s.blocks[i]
		if b.written != nil {
			picks = append(picks, int(x))
			if x&1 == 1 {
				b.last()
			}
			b.written = nil
			x >>= 1
		}
		if b.used = b.used || b.held; b.used {
			used = append(used, api.Ref{Addr: i})
		}
		b.held = false
	}
	s.d.Crash(picks...)
	s.armed, s.last = 0, 0
	s.a = opened(s.t, s.d, used...)
}

func (s *script) fault(x, y byte) {
	s.t.Helper()
	i := s.places()[int(x)%len(s.places())]
	b := s.blocks[i]
	may := b.written == nil && !b.faulted
	did := false
	if y%2 == 0 {
		did = s.d.Fail(i)
		b.cant = b.cant || may
	} else {
		did = s.d.Spoil(i, int(x)%253, uint32(y))
		if may {
			b.flushed = crc.Turned(b.flushed, int(x)%253, uint32(y))
		}
	}
	if did != may {
		s.t.Fatal("block", i, "is faulted:", did)
	}
	b.faulted = b.faulted || may
}

// alike holds the device, and what the area tells of itself, against what the sentences say.
func (s *script) alike() {
	s.t.Helper()
	used := []int{}
	for i := 150; i < size; i++ {
		if b := s.blocks[i]; b == nil || b.used {
			used = append(used, i)
		}
	}
	has(s.t, s.a, used, len(s.left()))
	for i, b := range s.blocks {
		if got, _ := s.d.Read(i); !bytes.Equal(got, b.bytes()) {
			s.t.Fatalf("block %d: %v, not %v", i, got, b.bytes())
		}
	}
	if s.t.Failed() {
		s.t.FailNow()
	}
}

// step does one of the calls.
func (s *script) step(call, x, y byte) {
	s.t.Helper()
	r := s.refs[len(s.refs)-1-int(x)%min(len(s.refs), 12)]
	switch call % 16 {
	case 0, 1, 2, 3:
		s.put(x, y)
	case 4, 5:
		s.low(x, y)
	case 6, 7:
		s.get(r)
	case 8, 9, 10, 11:
		s.drop(r)
	case 12:
		s.done()
	case 13:
		s.flush()
	case 14:
		s.fault(x, y)
	case 15:
		if x%4 == 0 {
			s.fall(y)
			break
		}
		s.armed = int(x) % 8
		s.d.Arm(s.armed)
	}
	if s.d.Down() {
		gets(s.t, s.a, r, nil, api.ErrCrash)
		s.fall(x ^ y)
	}
	s.alike()
}

// run does what a script says, three bytes a step.
func run(t *testing.T, steps []byte) {
	t.Helper()
	s := newScript(t)
	for ; len(steps) >= 3; steps = steps[3:] {
		s.step(steps[0], steps[1], steps[2])
	}
}

// P9.1 and P9.2: long scripts of all the calls, with faults and falls.
func TestScripts(t *testing.T) {
	r := rand.New(rand.NewSource(9))
	for range 400 {
		steps := make([]byte, 3*200)
		r.Read(steps)
		run(t, steps)
	}
}

// P9.1 and P9.2: whatever script.
func FuzzArea(f *testing.F) {
	f.Add([]byte("\x00\x01\x07\x00\x02\x08\x08\x00\x00\x0c\x00\x00\x04\x00\x03\x06\x00\x00"))
	f.Add([]byte("\x00\xff\x09\x0d\x00\x00\x0e\x00\x02\x06\x00\x00\x0f\x01\x00\x00\x01\x00"))
	f.Fuzz(func(t *testing.T, steps []byte) {
		run(t, steps[:min(len(steps), 3*300)])
	})
}
