// Package ring is layer 1: see shared/doc/01-ring.md.
package ring

import (
	"kibitzer/api"
)

// Ring is the last bytes of an output, by their numbers in all of it.
type Ring struct {
	end int64
	// A byte's place is its number modulo the room, so that a new byte takes the place of the one that goes.
	kept []byte
}

// New is a ring for so many bytes, without any.
func New(size int) *Ring {
	return &Ring{kept: make([]byte, min(max(size, 1), api.MaxCap))}
}

// Base is the number of the first byte that is there.
func (r *Ring) Base() int64 { return max(r.end-r.room(), 0) }

// End is how many bytes came in all.
func (r *Ring) End() int64 { return r.end }

// Append lets bytes come; false: there would be too many in all.
func (r *Ring) Append(b []byte) bool {
	if int64(len(b)) > api.MaxOffset-r.end {
		return false
	}
	if r.kept == nil {
		r.kept = make([]byte, r.room())
	}
	// Only the last bytes are written: what doesn't fit would be gone at once, and may be far more than the room.
	gone := max(len(b)-len(r.kept), 0)
	r.end += int64(gone)
	r.put(b[gone:])
	return true
}

// Read is up to so many bytes from one on; false: that one isn't there, nor the next to come.
func (r *Ring) Read(off int64, n int) ([]byte, bool) {
	if off < r.Base() || off > r.end {
		return nil, false
	}
	count := min(int64(n), r.end-off)
	if count < 1 {
		return nil, true
	}
	b := make([]byte, count)
	first := copy(b, r.kept[r.place(off):])
	copy(b[first:], r.kept)
	return b, true
}

// Line is where a line begins: the first place from one on behind a line feed that is there; the end, if there is none.
func (r *Ring) Line(off int64) int64 {
	base := r.Base()
	if off <= 0 && base == 0 {
		return 0
	}
	// Base itself begins no line that could be told: the byte ahead of it is gone, whatever it was.
	for at := max(off, base+1); at < r.end; at++ {
		if r.kept[r.place(at-1)] == '\n' {
			return at
		}
	}
	return r.end
}

// room is how many bytes are kept; a Ring that New didn't make is like New of 0.
func (r *Ring) room() int64 { return max(int64(len(r.kept)), 1) }

// place is where the byte of a number stands.
func (r *Ring) place(n int64) int64 { return n % r.room() }

// put writes bytes, no more than there is room for, behind those that are there.
func (r *Ring) put(b []byte) {
	first := copy(r.kept[r.place(r.end):], b)
	copy(r.kept, b[first:])
	r.end += int64(len(b))
}
