package page

import (
	"maps"
	"math/rand"
	"slices"
	"testing"

	"breviary/api"
	"breviary/dev"
	"breviary/geo"
)

const (
	size = 300
	half = 75
)

// script is a store, and what the chapter's sentences say of it.
type script struct {
	t       *testing.T
	d       *dev.Device
	s       *Store
	has     pages // what is there, with what was changed
	kept    pages // as at the last Commit
	epoch   int64
	changed map[int]struct{}
}

func newScript(t *testing.T) *script {
	d, s := fresh(t, size)
	return &script{t: t, d: d, s: s, has: pages{}, kept: pages{}, changed: map[int]struct{}{}}
}

// number is one of few, so that they meet, and some that are far from each other.
func number(x byte) int {
	if x%2 == 0 {
		return int(x/2) % 24
	}
	return int(x)
}

func (s *script) write(x, y byte) {
	s.t.Helper()
	p, b := number(x), make([]byte, int(y)%252)
	for i := range b {
		b[i] = x ^ byte(i)*y
	}
	want := error(nil)
	if len(b) < 1 || len(b) > api.PageSize {
		want = api.ErrShape
	} else {
		s.has[p] = string(b)
		s.changed[p] = struct{}{}
	}
	if err := s.s.Write(p, b); err != want {
		s.t.Fatalf("Write(%d) of %d bytes: %v", p, len(b), err)
	}
}

func (s *script) drop(x byte) {
	s.t.Helper()
	p := number(x)
	if s.has[p] != "" {
		s.changed[p] = struct{}{}
	}
	delete(s.has, p)
	drop(s.t, s.s, p)
}

// done has all that was changed committed, or be as it was.
func (s *script) done(well bool) {
	if well {
		s.kept = maps.Clone(s.has)
		s.epoch++
	}
	s.has = maps.Clone(s.kept)
	clear(s.changed)
}

// commit commits, where the power may be gone at some call, and holds what comes of it.
func (s *script) commit() {
	s.t.Helper()
	calls := s.d.Calls()
	switch err := s.s.Commit(); {
	case len(s.changed) == 0:
		if err != nil || s.d.Calls() != calls {
			s.t.Fatal("with nothing changed:", err)
		}
	case err == nil:
		s.done(true)
		if s.d.Pending() != 0 || 2*len(s.s.Used()) > half {
			s.t.Fatal(s.d.Pending(), s.s.Used())
		}
	case err == api.ErrFull:
		if 2*len(s.has)+40 <= half || s.d.Calls() != calls {
			s.t.Fatal("full with", len(s.has))
		}
	case err != api.ErrCrash:
		s.t.Fatal(err)
	}
}

// fall crashes by the bits of x, and opens anew, where the power may be gone again.
func (s *script) fall(x, y byte) {
	s.t.Helper()
	s.d.Crash(bits(int(x), s.d.Pending())...)
	for s.d.Arm(int(y)%4 + 1); ; y /= 4 {
		again, err := Open(s.d)
		if err == nil {
			s.s = again
			break
		}
		if err != api.ErrCrash {
			s.t.Fatal("behind a fall:", err)
		}
		s.d.Crash(bits(int(y^x), s.d.Pending())...)
		s.d.Arm(int(y/4) % 6)
	}
	s.d.Arm(0)
	e := s.s.Epoch()
	if e != s.epoch && e != s.epoch+1 {
		s.t.Fatal("Epoch", e, "behind", s.epoch)
	}
	s.done(e > s.epoch)
}

// fault faults a block, if that makes no pair.
func (s *script) fault(x, y byte) {
	s.t.Helper()
	i := int(x) % (2 * half)
	if x%4 == 0 { // the roots', more often than not
		i = int(x/4)%2 + int(x/8)%2*half
	}
	if partner, _ := geo.Partner(api.Geo{Blocks: size, Half: half}, i); s.d.Faulted(partner) {
		return
	}
	if y%3 == 0 {
		s.d.Fail(i)
	} else {
		s.d.Spoil(i, int(y)%253, 1+uint32(x)<<(y%24))
	}
}

// round heals all; but of the elder root's a block that is right may have a fault that it doesn't see: none has.
func (s *script) round() {
	s.t.Helper()
	for i := range half {
		used := slices.Contains(s.s.Used(), i)
		sick := used && (s.d.Faulted(i) || s.d.Faulted(i+half))
		n, err := s.s.Heal(i)
		if err == api.ErrCrash {
			return
		}
		if err != nil || n > 1 || n > 0 && !sick {
			s.t.Fatal("Heal", i, n, err)
		}
	}
	if s.d.Flush() != nil {
		return
	}
	for _, i := range s.s.Used() {
		if s.d.Faulted(i) || s.d.Faulted(i+half) {
			s.t.Fatal("still faulted:", i)
		}
	}
}

// alike holds what is told against what the sentences say. Reading mends, so it is done where that is wanted only.
func (s *script) alike(read bool) {
	s.t.Helper()
	if !slices.Equal(s.s.Pages(), slices.Sorted(maps.Keys(s.has))) {
		s.t.Fatal(s.s.Pages(), "not", slices.Sorted(maps.Keys(s.has)))
	}
	tells(s.t, s.s, len(s.changed), s.epoch)
	if read {
		has(s.t, s.s, s.has)
		has(s.t, opened(s.t, s.d.Clone()), s.kept)
	}
	if s.t.Failed() {
		s.t.FailNow()
	}
}

// step does one of the calls.
func (s *script) step(call, x, y byte) {
	s.t.Helper()
	switch call % 16 {
	case 0, 1, 2, 3:
		s.write(x, y)
	case 4, 5:
		s.drop(x)
	case 6, 7, 8:
		s.commit()
	case 9:
		s.s.Abort()
		s.done(false)
	case 10, 11, 12:
		s.fault(x, y)
	case 13:
		s.d.Arm(int(x) % 40)
	case 14:
		s.round()
	case 15:
		if p := number(x); x%4 > 0 {
			if b, err := s.s.Read(p); err != api.ErrCrash && string(b) != s.has[p] {
				s.t.Fatalf("Read(%d): %q %v, not %q", p, b, err, s.has[p])
			}
		} else {
			s.fall(x, y)
		}
	}
	if s.d.Down() {
		s.fall(x^y, y)
	}
	s.alike(false)
}

// run does what a script says, three bytes a step.
func run(t *testing.T, steps []byte) {
	t.Helper()
	s := newScript(t)
	for n := 0; len(steps) >= 3; n, steps = n+1, steps[3:] {
		s.step(steps[0], steps[1], steps[2])
		if n%32 == 31 {
			s.d.Arm(0)
			s.alike(true)
		}
	}
}

// P7.1 to P7.3: long scripts of all the calls, with falls, and faults that are not paired.
func TestScripts(t *testing.T) {
	x := rand.New(rand.NewSource(7))
	for range 200 {
		steps := make([]byte, 3*200)
		x.Read(steps)
		run(t, steps)
	}
}

// P7.1 to P7.3: whatever script.
func FuzzPages(f *testing.F) {
	f.Add([]byte("\x00\x01\x07\x06\x00\x00\x0a\x04\x03\x0d\x02\x00\x00\x05\x09\x06\x00\x00\x0e\x00\x00"))
	f.Add([]byte("\x00\x02\x09\x00\x03\x02\x06\x00\x02\x04\x02\x00\x06\x02\x01\x0f\x04\x05\x06\x00\x00"))
	f.Fuzz(func(t *testing.T, steps []byte) {
		run(t, steps[:min(len(steps), 3*300)])
	})
}
