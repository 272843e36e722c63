// Package sum is layer 2: see shared/doc/02-sum.md.
package sum

// The sum is the rest of a division of polynomials whose coefficients are bits.
const (
	start   = 0xffff // not 0, so that noughts ahead of all others count
	divisor = 0x1021 // without its highest power, 16, which falls out of the 16 bits by itself
	highest = 0x8000
)

// Of is the sum of bytes.
func Of(b []byte) uint16 { return More(start, b) }

// More is the sum of bytes behind others with a sum.
func More(s uint16, b []byte) uint16 {
	for _, c := range b {
		s = step(s ^ uint16(c)<<8)
	}
	return s
}

// step is what a sum is eight bits further.
func step(s uint16) uint16 {
	for range 8 {
		out := s & highest
		s <<= 1
		if out != 0 {
			s ^= divisor
		}
	}
	return s
}
