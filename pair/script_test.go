package pair

import (
	"bytes"
	"math/rand"
	"testing"

	"breviary/api"
	"breviary/crc"
	"breviary/dev"
)

const (
	size  = 300
	half  = 75
	tried = 4 // of the blocks a script writes these few, so that they meet
)

// slowBlock is a block of the device, as the chapters' sentences have it.
type slowBlock struct {
	flushed, written []byte // written: nil, if it is not pending
	faulted, cant    bool
}

// bytes are what can be read of it; nil: it can't be.
func (b *slowBlock) bytes() []byte {
	if b.written != nil {
		return b.written
	}
	if b.cant {
		return nil
	}
	return b.flushed
}

func (b *slowBlock) last() {
	if b.written != nil {
		*b = slowBlock{flushed: b.written}
	}
}

// script is a device, and what the chapter says of it. A Ref is held to what was written by it, not to a sum.
type script struct {
	t       *testing.T
	d       *dev.Device
	p       *Pairs
	places  [2 * tried]slowBlock // the second half's behind the first one's
	content map[api.Ref][]byte
	refs    []api.Ref // all that were answered
	armed   int
	mended  int
}

func newScript(t *testing.T) *script {
	d, p := made(t, size)
	s := &script{t: t, d: d, p: p, content: map[api.Ref][]byte{}}
	for k := range s.places {
		s.places[k].flushed = full(0)
	}
	for i := range tried {
		r := api.Ref{Addr: i, Sum: crc.Sum(full(0))}
		s.refs = append(s.refs, r)
		s.content[r] = full(0)
	}
	return s
}

func (s *script) place(k int) int { return k%tried + k/tried*half }

// power tells whether one more Write or Flush does well.
func (s *script) power() bool {
	if s.armed > 0 {
		s.armed--
		return s.armed > 0
	}
	return true
}

// put writes to the k-th place, if there is power.
func (s *script) put(k int, b []byte) bool {
	if !s.power() {
		return false
	}
	s.places[k].written = b
	return true
}

func (s *script) same(got, want error) {
	s.t.Helper()
	if got != want {
		s.t.Fatalf("%v, not %v", got, want)
	}
}

func (s *script) write(i int, x byte) {
	s.t.Helper()
	b := rising(x)
	ok := s.put(i, b) && s.put(i+tried, b)
	r, err := s.p.Write(i, b)
	if !ok {
		s.same(err, api.ErrCrash)
		if r != (api.Ref{}) {
			s.t.Fatal(r)
		}
		return
	}
	s.same(err, nil)
	s.refs = append(s.refs, r)
	s.content[r] = b
}

// right tells whether the k-th place can be read, and has what was written by r.
func (s *script) right(k int, r api.Ref) bool {
	return bytes.Equal(s.places[k].bytes(), s.content[r])
}

func (s *script) read(r api.Ref) {
	s.t.Helper()
	want, err := s.content[r], error(nil)
	switch here := s.right(r.Addr, r); {
	case !here && !s.right(r.Addr+tried, r):
		want, err = nil, api.ErrIO
	case !here && !s.put(r.Addr, want):
		want, err = nil, api.ErrCrash
	case !here:
		s.mended++
	}
	reads(s.t, s.p, r, want, err)
}

func (s *script) mend(r api.Ref) {
	s.t.Helper()
	n, err := 0, error(nil)
	here, there := s.right(r.Addr, r), s.right(r.Addr+tried, r)
	bad := r.Addr
	if here {
		bad += tried
	}
	switch {
	case !here && !there:
		err = api.ErrIO
	case here && there:
	case s.put(bad, s.content[r]):
		n = 1
		s.mended++
	default:
		err = api.ErrCrash
	}
	mends(s.t, s.p, r, n, err)
}

func (s *script) flush() {
	s.t.Helper()
	if !s.power() {
		s.same(s.d.Flush(), api.ErrCrash)
		return
	}
	s.same(s.d.Flush(), nil)
	for k := range s.places {
		s.places[k].last()
	}
}

// fall crashes by the bits of x, and opens anew.
func (s *script) fall(x byte) {
	s.t.Helper()
	picks := []int{}
	for k := range s.places {
		b := &s.places[k]
		if b.written != nil {
			picks = append(picks, int(x))
			if x&1 == 1 {
				b.last()
			}
			b.written = nil
			x >>= 1
		}
	}
	s.d.Crash(picks...)
	s.armed, s.mended = 0, 0
	s.p = opened(s.t, s.d)
}

func (s *script) fault(k int, x, y byte) {
	s.t.Helper()
	b := &s.places[k]
	may := b.written == nil && !b.faulted
	if x%2 == 0 {
		if s.d.Fail(s.place(k)) != may {
			s.t.Fatal("Fail", k)
		}
		b.cant = b.cant || may
	} else {
		bits := uint32(x) << (y % 25)
		if s.d.Spoil(s.place(k), int(y)%253, bits) != may {
			s.t.Fatal("Spoil", k)
		}
		if may {
			b.flushed = crc.Turned(b.flushed, int(y)%253, bits)
		}
	}
	b.faulted = b.faulted || may
}

// alike holds the device, and what was counted, against what the sentences say.
func (s *script) alike() {
	s.t.Helper()
	for k := range s.places {
		got, _ := s.d.Read(s.place(k))
		if !bytes.Equal(got, s.places[k].bytes()) || s.d.Faulted(s.place(k)) != s.places[k].faulted {
			s.t.Fatalf("place %d: %v, not %v", k, got, s.places[k].bytes())
		}
	}
	mended(s.t, s.p, s.mended)
	if s.t.Failed() {
		s.t.FailNow()
	}
}

// step does one of the calls.
func (s *script) step(call, x, y byte) {
	s.t.Helper()
	r := s.refs[len(s.refs)-1-int(x)%min(len(s.refs), 8)]
	switch call % 12 {
	case 0, 1:
		s.write(int(x)%tried, y)
	case 2, 3, 4:
		s.read(r)
	case 5, 6:
		s.mend(r)
	case 7:
		s.flush()
	case 8, 9, 10:
		s.fault(int(x)%len(s.places), y, x)
	case 11:
		if x%3 == 0 {
			s.fall(y)
			break
		}
		s.armed = int(x) % 8
		s.d.Arm(s.armed)
	}
	if s.d.Down() {
		s.fall(x ^ y)
	}
	s.alike()
}

// run does what a script says, three bytes a step.
func run(t *testing.T, steps []byte) {
	t.Helper()
	s := newScript(t)
	for ; len(steps) >= 3; steps = steps[3:] {
		s.step(steps[0], steps[1], steps[2])
	}
}

// P5.1 and P5.2: long scripts of all the calls, with faults and falls.
func TestScripts(t *testing.T) {
	r := rand.New(rand.NewSource(5))
	for range 400 {
		steps := make([]byte, 3*200)
		r.Read(steps)
		run(t, steps)
	}
}

// P5.1 and P5.2: whatever script.
func FuzzPairs(f *testing.F) {
	f.Add([]byte("\x00\x01\x07\x07\x00\x00\x08\x01\x03\x02\x00\x00\x05\x00\x00"))
	f.Add([]byte("\x00\x02\x09\x0b\x02\x00\x00\x02\x08\x02\x00\x00\x02\x01\x00"))
	f.Fuzz(func(t *testing.T, steps []byte) {
		run(t, steps[:min(len(steps), 3*300)])
	})
}
