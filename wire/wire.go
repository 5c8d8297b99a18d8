// Package wire lays numbers and texts as bytes, and reads them back: see ../shared/doc/01-wire.md.
package wire

import (
	"slices"

	"breviary/api"
)

const (
	group   = 7          // bits of a number in a byte
	more    = 1 << group // added to each byte of a number but the last
	longest = 10         // bytes of a number: 64 bits in groups of 7
)

// Put answers b, in new memory, and n behind it.
func Put(b []byte, n int64) []byte {
	return appendNum(roomBehind(b, longest), n)
}

// PutText answers b, in new memory, and behind it how many bytes s has, and these.
func PutText(b []byte, s string) []byte {
	out := appendNum(roomBehind(b, longest+len(s)), int64(len(s)))
	return append(out, s...)
}

// roomBehind is b in memory of its own, so that nothing is written into b's spare room.
func roomBehind(b []byte, room int) []byte {
	out := make([]byte, 0, len(b)+room)
	return append(out, b...)
}

func appendNum(b []byte, n int64) []byte {
	u := zigzag(n)
	for u >= more {
		b = append(b, byte(u%more+more))
		u >>= group
	}
	return append(b, byte(u))
}

// zigzag has numbers near 0, below it too, come out small: 0, -1, 1, -2 .. are 0, 1, 2, 3 ..
func zigzag(n int64) uint64 {
	if n < 0 {
		return uint64(^n)<<1 + 1
	}
	return uint64(n) << 1
}

func unzigzag(u uint64) int64 {
	n := int64(u >> 1)
	if u%2 == 1 {
		return ^n
	}
	return n
}

// Reader goes through bytes from their beginning until its first error.
type Reader struct {
	b   []byte
	at  int
	err error
}

// NewReader is a reader of b as it is now: what becomes of b later it does not see.
func NewReader(b []byte) *Reader {
	return &Reader{b: slices.Clone(b)}
}

// Num is the number that comes next, if it is from low to high.
func (r *Reader) Num(low, high int64) int64 {
	if r.err != nil {
		return 0
	}
	n, size, err := firstNum(r.b[r.at:])
	if err == nil && (n < low || n > high) {
		err = api.ErrRange
	}
	if err != nil {
		r.stop(r.at, err)
		return 0
	}
	r.at += size
	return n
}

// Text is the text that comes next, if it has no more bytes than most.
func (r *Reader) Text(most int) string {
	begin := r.at
	n := r.Num(0, int64(most))
	if r.err != nil {
		return ""
	}
	if n > int64(r.Left()) {
		r.stop(begin, api.ErrEnd)
		return ""
	}
	from := r.at
	r.at += int(n)
	return string(r.b[from:r.at])
}

// Bool is whether the number that comes next is 1, if it is 0 or 1.
func (r *Reader) Bool() bool {
	return r.Num(0, 1) == 1
}

// At is the place of what comes next; behind an error, the error's place.
func (r *Reader) At() int {
	return r.at
}

// Left is how many bytes are left to read; behind an error none is.
func (r *Reader) Left() int {
	if r.err != nil {
		return 0
	}
	return len(r.b) - r.at
}

// Err is the first error, with its place.
func (r *Reader) Err() error {
	return r.err
}

// stop ends the reading at the place at which what was asked begins.
func (r *Reader) stop(place int, err error) {
	r.at = place
	r.err = &api.At{Pos: place, Err: err}
}

// firstNum is the number at b's beginning, and how many bytes it takes.
func firstNum(b []byte) (n int64, size int, err error) {
	var u uint64
	for i, c := range b {
		last := i == longest-1
		if last && c > 1 || i > 0 && c == 0 {
			return 0, 0, api.ErrShape
		}
		u |= uint64(c%more) << (group * i)
		if c < more {
			return unzigzag(u), i + 1, nil
		}
	}
	return 0, 0, api.ErrEnd
}
