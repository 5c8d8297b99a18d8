package dev

import (
	"bytes"
	"math"
	"math/rand"
	"testing"

	"breviary/api"
)

// slowBlock is a block as the chapter's sentences have it.
type slowBlock struct {
	flushed, written []byte // written: nil, if it is not pending
	cant, bad, ever  bool
}

func (b *slowBlock) last(bytes []byte) {
	*b = slowBlock{flushed: bytes, ever: b.ever}
}

// slowDevice is the chapter again, a sentence at a time.
type slowDevice struct {
	blocks      []slowBlock
	good        int
	seen, fatal int // Writes and Flushes from the first on; at which of them the power is gone
	down        bool
}

func newSlow(blocks int) *slowDevice {
	s := &slowDevice{blocks: make([]slowBlock, blocks)}
	for i := range s.blocks {
		s.blocks[i].flushed = full(0)
	}
	return s
}

func (s *slowDevice) clone() *slowDevice {
	out := *s
	out.blocks = append([]slowBlock{}, s.blocks...)
	return &out
}

func (s *slowDevice) at(i int) *slowBlock {
	for k := range s.blocks {
		if k == i {
			return &s.blocks[k]
		}
	}
	return nil
}

func (s *slowDevice) gone() bool {
	s.seen++
	if s.seen == s.fatal {
		s.down = true
	}
	return s.down
}

func (s *slowDevice) write(i int, b []byte) error {
	gone, block := s.gone(), s.at(i)
	switch {
	case gone:
		return api.ErrCrash
	case block == nil:
		return api.ErrFull
	case len(b) != 256:
		return api.ErrShape
	}
	block.written = bytes.Clone(b)
	s.good++
	return nil
}

func (s *slowDevice) flush() error {
	if s.gone() {
		return api.ErrCrash
	}
	for i := range s.blocks {
		if b := s.blocks[i].written; b != nil {
			s.blocks[i].last(b)
		}
	}
	s.good++
	return nil
}

func (s *slowDevice) crash(picks []int) {
	s.down, s.fatal = false, 0
	for i := range s.blocks {
		b := s.blocks[i].written
		if b == nil {
			continue
		}
		s.blocks[i].written = nil
		if len(picks) > 0 && picks[0]%2 != 0 {
			s.blocks[i].last(b)
		}
		if len(picks) > 0 {
			picks = picks[1:]
		}
	}
}

func (s *slowDevice) spoil(i, at int, bits uint32) bool {
	b := s.at(i)
	if b == nil || b.written != nil || b.bad || at < 0 || at > 252 || bits == 0 {
		return false
	}
	b.flushed = bytes.Clone(b.flushed)
	for k := at; k < at+4; k++ {
		b.flushed[k] ^= byte(bits % 256)
		bits /= 256
	}
	b.bad, b.ever = true, true
	return true
}

func (s *slowDevice) fail(i int) bool {
	b := s.at(i)
	if b == nil || b.written != nil || b.bad {
		return false
	}
	b.cant, b.bad, b.ever = true, true, true
	return true
}

func (s *slowDevice) raw(i int, b []byte) bool {
	if s.at(i) == nil || len(b) != 256 {
		return false
	}
	s.at(i).last(bytes.Clone(b))
	return true
}

func (s *slowDevice) read(i int) ([]byte, error) {
	b := s.at(i)
	switch {
	case s.down:
		return nil, api.ErrCrash
	case b == nil:
		return nil, api.ErrFull
	case b.written != nil:
		return b.written, nil
	case b.cant:
		return nil, api.ErrIO
	}
	return b.flushed, nil
}

// alike holds all that a device tells against the slow one.
func alike(t *testing.T, d *Device, s *slowDevice) {
	t.Helper()
	pending, ever := 0, 0
	for i := -1; i <= len(s.blocks); i++ {
		got, err := d.Read(i)
		want, e := s.read(i)
		if err != e || !bytes.Equal(got, want) {
			t.Fatalf("Read(%d): %v %v, not %v %v", i, got, err, want, e)
		}
		b := s.at(i)
		if d.Faulted(i) != (b != nil && b.bad) {
			t.Fatalf("Faulted(%d): %v", i, d.Faulted(i))
		}
		if b != nil && b.written != nil {
			pending++
		}
		if b != nil && b.ever {
			ever++
		}
	}
	counts(t, d, pending, s.good, ever)
	if d.Down() != s.down || d.Blocks() != len(s.blocks) {
		t.Fatal("down, blocks:", d.Down(), d.Blocks())
	}
}

// both is a device and the slow one, to which the same is done.
type both struct {
	t *testing.T
	d *Device
	s *slowDevice
}

func (b both) sameError(got, want error) {
	b.t.Helper()
	if got != want {
		b.t.Fatalf("%v, not %v", got, want)
	}
}

func (b both) sameBool(got, want bool) {
	b.t.Helper()
	if got != want {
		b.t.Fatalf("%v, not %v", got, want)
	}
}

// bytesOf are a block of x, or, for some x, bytes that are none.
func bytesOf(x byte) []byte {
	switch {
	case x == 250:
		return nil
	case x > 250:
		return make([]byte, 253+int(x-250)) // 254 to 258, the 256 among them
	}
	return rising(x)
}

// picksOf are picks out of x's bits: how many, and which.
func picksOf(x byte) []int {
	out := []int{}
	for k := range int(x) % 9 {
		p := int(x) >> k
		if p&4 != 0 {
			p = -p
		}
		out = append(out, p)
	}
	return out
}

// step does one of the calls.
func (b both) step(call, i int, x, y byte) {
	b.t.Helper()
	switch call {
	case 0, 1, 2:
		b.sameError(b.d.Write(i, bytesOf(x)), b.s.write(i, bytesOf(x)))
	case 3:
		b.sameError(b.d.Flush(), b.s.flush())
	case 4:
		n := int(x)%12 - 3
		b.d.Arm(n)
		b.s.fatal = b.s.seen + n
		if n < 1 {
			b.s.fatal = 0
		}
	case 5:
		b.d.Crash(picksOf(x)...)
		b.s.crash(picksOf(x))
	case 6:
		bits := uint32(x&3) << (y % 31)
		at := int(x) + int(y%8) - 2
		b.sameBool(b.d.Spoil(i, at, bits), b.s.spoil(i, at, bits))
	case 7:
		b.sameBool(b.d.Fail(i), b.s.fail(i))
	case 8:
		b.sameBool(b.d.Raw(i, bytesOf(x)), b.s.raw(i, bytesOf(x)))
	}
}

// run does what a script says: four bytes a step: the call, the block, and two for its arguments. What a clone left behind is looked at again at the end.
func run(t *testing.T, blocks int, script []byte) {
	t.Helper()
	b := both{t, made(t, blocks), newSlow(blocks)}
	var left []both
	for ; len(script) >= 4; script = script[4:] {
		call, i := int(script[0])%10, int(script[1])%(blocks+2)-1
		if call == 9 {
			old := b
			b.d, b.s = b.d.Clone(), b.s.clone()
			if script[2]%2 == 1 {
				b, old = old, b
			}
			left = append(left, old)
		}
		b.step(call, i, script[2], script[3])
		alike(t, b.d, b.s)
	}
	for _, old := range left {
		alike(t, old.d, old.s)
		old.step(5, 0, 255, 0)
		alike(t, old.d, old.s)
	}
	alike(t, b.d, b.s)
}

// P3.1, P3.2 and P3.3: long scripts of all the calls, on devices of one block and of a few.
func TestScripts(t *testing.T) {
	r := rand.New(rand.NewSource(3))
	for round := range 600 {
		script := make([]byte, 4*200)
		r.Read(script)
		run(t, 1+round%7, script)
	}
}

// The slow one and the device are asked at the ends of what may be asked, too.
func TestScriptEnds(t *testing.T) {
	b := both{t, made(t, 2), newSlow(2)}
	for _, i := range []int{math.MinInt, -1, 0, 1, 2, math.MaxInt} {
		for call := range 9 {
			for _, x := range []byte{0, 1, 127, 249, 250, 251, 252, 253, 254, 255} {
				b.step(call, i, x, 3)
				alike(t, b.d, b.s)
			}
		}
	}
}

// P3.1, P3.2 and P3.3: whatever script.
func FuzzDevice(f *testing.F) {
	f.Add(uint8(0), []byte("\x00\x01\x07\x00\x05\x00\x00\x00"))
	f.Add(uint8(2), []byte("\x04\x00\x05\x00\x00\x01\x07\x00\x03\x00\x00\x00\x05\x00\xff\x00"))
	f.Add(uint8(3), []byte("\x07\x01\x00\x00\x00\x01\x07\x00\x09\x00\x00\x00\x03\x00\x00\x00\x06\x01\x01\x09"))
	f.Fuzz(func(t *testing.T, blocks uint8, script []byte) {
		run(t, 1+int(blocks)%12, script[:min(len(script), 2000)])
	})
}
