package root

import (
	"math/rand"
	"testing"

	"breviary/api"
	"breviary/dev"
)

const (
	size = 300
	half = 75
)

// slowPlace is one of the four blocks, as the chapters' sentences have it: of its bytes only which root they are is held (of Epoch 0: none).
type slowPlace struct {
	has, written     Root
	pending, faulted bool
}

// root is what can be read of it. Of a faulted one it is none, whichever way it is faulted.
func (p *slowPlace) root() Root {
	switch {
	case p.pending:
		return p.written
	case p.faulted:
		return Root{}
	}
	return p.has
}

// script is a device, and what the chapters say of it.
type script struct {
	t      *testing.T
	d      *dev.Device
	places [4]slowPlace // 0, its partner, 1, its partner
	armed  int
}

// block is where the k-th place lies.
func (s *script) block(k int) int { return k/2 + k%2*half }

func (s *script) power() bool {
	if s.armed > 0 {
		s.armed--
		return s.armed > 0
	}
	return true
}

func (s *script) put(k int, r Root) bool {
	if !s.power() {
		return false
	}
	s.places[k].written, s.places[k].pending = r, true
	return true
}

func (s *script) flush() bool {
	if !s.power() {
		return false
	}
	for k := range s.places {
		s.last(k)
	}
	return true
}

// last has what is pending for the k-th place last.
func (s *script) last(k int) {
	if s.places[k].pending {
		s.places[k] = slowPlace{has: s.places[k].written}
	}
}

// told is the root that Load is to tell, and how many copies there are of it.
func (s *script) told() (Root, int) {
	var r Root
	for k := range s.places {
		if x := s.places[k].root(); x.Epoch > r.Epoch {
			r = x
		}
	}
	if r.Epoch == 0 {
		return r, 0
	}
	n := 0
	for k := range 2 {
		if same(s.places[int(r.Epoch%2)*2+k].root(), r) {
			n++
		}
	}
	return r, n
}

// save saves, and holds what comes of it.
func (s *script) save(r Root) bool {
	s.t.Helper()
	k := int(r.Epoch%2) * 2
	ok := s.put(k, r) && s.put(k+1, r) && s.flush()
	err := Save(s.d, r)
	if ok != (err == nil) || !ok && err != api.ErrCrash {
		s.t.Fatalf("Save(%v): %v", r, err)
	}
	return ok
}

// fall crashes by the bits of x.
func (s *script) fall(x byte) {
	s.t.Helper()
	refuses(s.t, s.d, api.ErrCrash)
	picks := []int{}
	for k, at := range [4]int{0, 2, 1, 3} { // rising: 0, 1, and their partners
		if p := &s.places[at]; p.pending {
			picks = append(picks, int(x>>k))
			if x>>k&1 == 1 {
				s.last(at)
			}
			p.pending = false
		}
	}
	s.d.Crash(picks...)
	s.armed = 0
}

func (s *script) fault(k int, x byte) {
	s.t.Helper()
	p := &s.places[k]
	may := !p.pending && !p.faulted
	if x%4 == 0 && s.d.Fail(s.block(k)) != may || x%4 > 0 && s.d.Spoil(s.block(k), int(x)%253, uint32(x)<<(x%24)) != may {
		s.t.Fatal("fault", k, x)
	}
	p.faulted = p.faulted || may
}

// raw lays a root, or none, past all Saves.
func (s *script) raw(k int, r Root) {
	s.t.Helper()
	b := make([]byte, api.BlockSize)
	if r.Epoch > 0 {
		b = laidOf(s.t, r)
	}
	s.places[k] = slowPlace{has: r}
	if !s.d.Raw(s.block(k), b) {
		s.t.Fatal("Raw", k)
	}
}

// alike holds what is told against what the sentences say.
func (s *script) alike() {
	s.t.Helper()
	r, n := s.told()
	loads(s.t, s.d, r)
	copies(s.t, s.d, n)
	for k, p := range s.places {
		if s.d.Faulted(s.block(k)) != p.faulted {
			s.t.Error("faulted:", k, p.faulted)
		}
	}
	if s.t.Failed() {
		s.t.FailNow()
	}
}

// any is one of few roots, so that they meet.
func (s *script) any(x byte) Root {
	return Root{Epoch: 1 + int64(x%5), Refs: refs(int(x/5) % 3)}
}

// step does one of the calls.
func (s *script) step(call, x, y byte) {
	s.t.Helper()
	switch call % 10 {
	case 0, 1:
		s.save(s.any(x))
	case 2, 3, 4:
		ahead, _ := s.told()
		s.save(Root{Epoch: ahead.Epoch + 1, Refs: refs(int(x) % 17)})
	case 5, 6:
		s.fault(int(x)%4, y)
	case 7:
		s.raw(int(x)%4, s.any(y))
	case 8:
		if k := int(x) % 4; s.put(k, s.any(y)) != (s.d.Write(s.block(k), laidOf(s.t, s.any(y))) == nil) {
			s.t.Fatal("Write")
		}
	case 9:
		s.armed = int(x) % 6
		s.d.Arm(s.armed)
	}
	if s.d.Down() {
		s.fall(x ^ y)
	}
	s.alike()
}

// run does what a script says, three bytes a step.
func run(t *testing.T, steps []byte) {
	t.Helper()
	s := &script{t: t, d: made(t, size)}
	for ; len(steps) >= 3; steps = steps[3:] {
		s.step(steps[0], steps[1], steps[2])
	}
}

// P6.3: long scripts of all that may come to the four blocks.
func TestScripts(t *testing.T) {
	x := rand.New(rand.NewSource(63))
	for range 300 {
		steps := make([]byte, 3*120)
		x.Read(steps)
		run(t, steps)
	}
}

// P6.4: long rows of Saves, each one behind what was loaded; some fall, and where the last one did well there may be faults that are not paired.
func TestRows(t *testing.T) {
	x := rand.New(rand.NewSource(64))
	for range 300 {
		d := made(t, size)
		at := Root{}
		for range 60 {
			next := Root{Epoch: at.Epoch + 1, Refs: refs(x.Intn(17))}
			d.Arm(x.Intn(6)) // at 0, and above 3, it does well
			if err := Save(d, next); err == nil {
				at = next
				d.Arm(0)
				for i := range 2 {
					harmOne(t, d, i+x.Intn(2)*half, x.Intn(160))
				}
				loads(t, d, at)
			} else {
				d.Crash(x.Intn(3)-1, x.Intn(3)-1)
				r, is, err := Load(d)
				if err != nil || is != (r.Epoch > 0) || !same(r, at) && !same(r, next) {
					t.Fatalf("%v %v %v, neither %v nor %v", r, is, err, at, next)
				}
				at = r
			}
		}
	}
}

// harmOne does a fault, or none, where there is none in this block, nor in its partner.
func harmOne(t *testing.T, d *dev.Device, i, kind int) {
	t.Helper()
	if kind < 80 && !d.Faulted(i) && !d.Faulted((i+half)%(2*half)) {
		harm(t, d, kind, i)
	}
}

// P6.3: whatever script.
func FuzzRoots(f *testing.F) {
	f.Add([]byte("\x02\x01\x00\x02\x02\x00\x09\x02\x00\x02\x03\x01\x05\x01\x04"))
	f.Add([]byte("\x00\x08\x00\x07\x03\x09\x08\x01\x0e\x05\x02\x07\x09\x03\x00\x02\x05\x02"))
	f.Fuzz(func(t *testing.T, steps []byte) {
		run(t, steps[:min(len(steps), 3*200)])
	})
}
