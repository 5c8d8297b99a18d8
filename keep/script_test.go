package keep

import (
	"maps"
	"math/rand"
	"strconv"
	"strings"
	"testing"

	"breviary/api"
	"breviary/dev"
	"breviary/geo"
	"breviary/page"
)

const (
	blocks = 300
	half   = 75
)

// script is a keep, and what the chapter's sentences say of it.
type script struct {
	t    *testing.T
	d    *dev.Device
	k    *Keep
	has  keys // what is there, with what was put and deleted
	last keys // as at the last Commit
	half bool // whether a Commit found the power gone: it may have been whole
}

// text is one of few keys, of all lengths, so that they meet.
func text(x byte) string {
	return strings.Repeat(strconv.Itoa(int(x)%40), 1+int(x)%20)
}

func (s *script) put(x, y byte) {
	s.t.Helper()
	key, value := text(x), strings.Repeat(string(rune('a'+y%26)), int(y)%(api.MaxValue+2))
	want := error(nil)
	if len(key) > api.MaxKey || len(value) > api.MaxValue {
		want = api.ErrRange
	} else {
		s.has[key] = value
	}
	if err := s.k.Put([]byte(key), []byte(value)); err != want {
		s.t.Fatalf("Put(%q) of %d bytes: %v", key, len(value), err)
	}
}

func (s *script) del(x byte) {
	s.t.Helper()
	_, is := s.has[text(x)]
	delete(s.has, text(x))
	if s.k.Del([]byte(text(x))) != is {
		s.t.Fatalf("Del(%q): not %v", text(x), is)
	}
}

// small tells whether all that is there has to find room.
func (s *script) small() bool {
	for key, value := range s.has {
		if len(key)+len(value) > 60 {
			return false
		}
	}
	return len(s.has) <= half-40
}

// commit commits, where the power may be gone at some call, and holds what comes of it.
func (s *script) commit() {
	s.t.Helper()
	calls := s.d.Calls()
	switch err := s.k.Commit(); {
	case err == nil:
		if maps.Equal(s.has, s.last) && s.d.Calls() != calls {
			s.t.Fatal("a Commit of nothing wrote")
		}
		s.last = maps.Clone(s.has)
		lie(s.t, s.k)
	case err == api.ErrFull:
		if s.small() || s.d.Calls() != calls {
			s.t.Fatal("full with", len(s.has))
		}
	case err == api.ErrCrash:
		s.half = true
	default:
		s.t.Fatal(err)
	}
}

// fall crashes by the bits of x, and opens anew, where the power may be gone again.
func (s *script) fall(x, y byte) {
	s.t.Helper()
	s.d.Crash(bits(int(x)*257, s.d.Pending())...)
	for s.d.Arm(int(y)%6 + 1); ; y /= 4 {
		again, err := page.Open(s.d)
		if err == nil {
			s.k, err = Open(again)
		}
		if err == nil {
			break
		}
		if err != api.ErrCrash {
			s.t.Fatal("behind a fall:", err)
		}
		s.d.Crash(bits(int(y^x)*257, s.d.Pending())...)
		s.d.Arm(int(y/4) % 6)
	}
	s.d.Arm(0)
	if s.half && scan(s.k, "", "") == within(s.has, "", "") {
		s.last = maps.Clone(s.has)
	}
	s.has, s.half = maps.Clone(s.last), false
	s.alike()
}

// fault faults a block, if that makes no pair.
func (s *script) fault(x, y byte) {
	s.t.Helper()
	i := int(x) % (2 * half)
	if partner, _ := geo.Partner(api.Geo{Blocks: blocks, Half: half}, i); s.d.Faulted(partner) {
		return
	}
	if y%3 == 0 {
		s.d.Fail(i)
	} else {
		s.d.Spoil(i, int(y)%253, 1+uint32(x)<<(y%24))
	}
}

// round heals what is in use, so that more may be faulted.
func (s *script) round() {
	s.t.Helper()
	for _, i := range s.k.store.Used() {
		if _, err := s.k.store.Heal(i); err != nil && err != api.ErrCrash {
			s.t.Fatal("Heal", i, err)
		}
	}
	if err := s.d.Flush(); err != nil && err != api.ErrCrash {
		s.t.Fatal(err)
	}
}

// alike holds what is told against what the sentences say.
func (s *script) alike() {
	s.t.Helper()
	has(s.t, s.k, s.has)
	if s.t.Failed() {
		s.t.FailNow()
	}
}

// step does one of the calls.
func (s *script) step(call, x, y byte) {
	s.t.Helper()
	switch call % 16 {
	case 0, 1, 2, 3, 4, 5:
		s.put(x, y)
	case 6, 7, 8:
		s.del(x)
	case 9, 10:
		s.commit()
	case 11:
		if x%4 > 0 {
			s.commit()
		} else {
			s.k.Abort()
			s.has = maps.Clone(s.last)
		}
	case 12:
		s.fault(x, y)
	case 13:
		if x%3 > 0 {
			s.fault(x, y)
		} else {
			s.d.Arm(int(x) % 40)
		}
	case 14:
		if from, to := text(x), text(y); scan(s.k, from, to) != within(s.has, from, to) {
			s.t.Fatalf("Scan(%q, %q): %s, not %s", from, to, scan(s.k, from, to), within(s.has, from, to))
		}
		s.round()
	case 15:
		if x%2 > 0 {
			value, is := s.has[text(y)]
			gets(s.t, s.k, text(y), value, is)
		} else {
			s.fall(x, y)
		}
	}
	if s.d.Down() {
		s.fall(x^y, y)
	}
}

// run does what a script says, three bytes a step.
func run(t *testing.T, steps []byte) {
	t.Helper()
	d, k := fresh(t, blocks)
	s := &script{t: t, d: d, k: k, has: keys{}, last: keys{}}
	for n := 0; len(steps) >= 3; n, steps = n+1, steps[3:] {
		s.step(steps[0], steps[1], steps[2])
		s.alike()
		if n%32 == 31 {
			s.d.Arm(0)
			has(t, opened(t, s.d.Clone()), s.last)
		}
	}
}

// P8.1 to P8.3: long scripts of all the calls, with falls, and faults that are not paired.
func TestScripts(t *testing.T) {
	x := rand.New(rand.NewSource(8))
	for range 150 {
		steps := make([]byte, 3*200)
		x.Read(steps)
		run(t, steps)
	}
}

// P8.1 to P8.3: whatever script.
func FuzzKeep(f *testing.F) {
	f.Add([]byte("\x00\x01\x07\x09\x00\x00\x00\x04\x50\x0d\x03\x00\x06\x01\x00\x09\x00\x00\x0e\x01\x02"))
	f.Add([]byte("\x00\x02\x79\x00\x03\x78\x09\x00\x00\x06\x02\x00\x0c\x09\x01\x0f\x04\x05\x09\x00\x00"))
	f.Fuzz(func(t *testing.T, steps []byte) {
		run(t, steps[:min(len(steps), 3*300)])
	})
}
