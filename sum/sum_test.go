package sum_test

import (
	"bytes"
	"testing"

	"kibitzer/sum"
)

// divided is More in the document's words, with the register in an int, so that nothing falls out by itself.
func divided(s uint16, b []byte) uint16 {
	rest := int(s)
	for _, c := range b {
		rest ^= int(c) * 256
		for i := 0; i < 8; i++ {
			rest *= 2
			if rest >= 65536 {
				rest = (rest - 65536) ^ 0x1021
			}
		}
	}
	return uint16(rest)
}

// noise is bytes without a plain pattern, always the same ones.
func noise(n int) []byte {
	b := make([]byte, n)
	x := uint32(n)
	for i := range b {
		x = x*1664525 + 1013904223
		b[i] = byte(x >> 24)
	}
	return b
}

// turn turns one bit, counted from the highest one of the first byte on.
func turn(b []byte, bit int) { b[bit/8] ^= 0x80 >> (bit % 8) }

func TestKnown(t *testing.T) {
	for _, c := range []struct {
		text string
		want uint16
	}{
		{"123456789", 0x29b1}, {"", 0xffff}, {"A", 0xb915}, {"\x00", 0xe1f0}, {"\xff", 0xff00}, {"\xff\xff", 0},
	} {
		if got := sum.Of([]byte(c.text)); got != c.want {
			t.Errorf("Of(%q) is %#04x, not %#04x", c.text, got, c.want)
		}
	}
	if sum.Of(nil) != 0xffff || sum.Of([]byte{}) != 0xffff {
		t.Error("no bytes")
	}
	if got := sum.More(0, []byte("123456789")); got != 0x31c3 {
		t.Errorf("More of 0 is %#04x", got)
	}
	if sum.Of([]byte{0, 'a'}) == sum.Of([]byte{'a'}) {
		t.Error("a nought ahead doesn't count")
	}
}

func TestEachSumAndByte(t *testing.T) {
	for s := 0; s < 1<<16; s++ {
		for _, c := range []byte{0, 1, 0x10, 0x21, 0x7f, 0x80, 0xff} {
			if got, want := sum.More(uint16(s), []byte{c}), divided(uint16(s), []byte{c}); got != want {
				t.Fatalf("More(%#04x, %#02x) is %#04x, not %#04x", s, c, got, want)
			}
		}
		if sum.More(uint16(s), nil) != uint16(s) || sum.More(uint16(s), []byte{}) != uint16(s) {
			t.Fatalf("More of %#04x and nothing", s)
		}
	}
	for c := range 256 {
		if got, want := sum.Of([]byte{byte(c)}), divided(0xffff, []byte{byte(c)}); got != want {
			t.Errorf("Of(%#02x) is %#04x, not %#04x", c, got, want)
		}
	}
}

func TestLong(t *testing.T) {
	for _, n := range []int{2, 3, 255, 256, 257, 4000, 1 << 17} {
		b := noise(n)
		if sum.Of(b) != divided(0xffff, b) || sum.More(0x1234, b) != divided(0x1234, b) {
			t.Errorf("%d bytes", n)
		}
		if !bytes.Equal(b, noise(n)) {
			t.Errorf("%d bytes are changed", n)
		}
	}
}

// More(More(s, a), b) is More of s and both.
func TestCuts(t *testing.T) {
	b := noise(100)
	for _, s := range []uint16{0, 1, 0x8000, 0xffff} {
		whole := sum.More(s, b)
		for i := 0; i <= len(b); i++ {
			if sum.More(sum.More(s, b[:i]), b[i:]) != whole {
				t.Errorf("More of %#04x, cut at %d", s, i)
			}
			if sum.More(sum.Of(b[:i]), b[i:]) != sum.Of(b) {
				t.Errorf("Of, cut at %d", i)
			}
		}
	}
}

// At most two bits of a short text are turned: each pair of them.
func TestTwoBitsOfFew(t *testing.T) {
	for _, n := range []int{1, 2, 12} {
		b := noise(n)
		was := sum.Of(b)
		for i := range 8 * n {
			turn(b, i)
			if sum.Of(b) == was {
				t.Errorf("%d bytes, bit %d", n, i)
			}
			for j := range i {
				turn(b, j)
				if sum.Of(b) == was {
					t.Errorf("%d bytes, bits %d and %d", n, i, j)
				}
				turn(b, j)
			}
			turn(b, i)
		}
	}
}

// What one bit turns of the sum hangs on its place alone, and two turn what each of them turns; so two bits
// of 4000 bytes turn the sum just if no two places turn the same of it.
func TestTwoBitsOfMany(t *testing.T) {
	const n = 4000
	b := noise(n)
	was := sum.Of(b)
	place := map[uint16]int{}
	ahead := uint16(0xffff)
	for k := range n {
		for bit := range 8 {
			turned := sum.More(sum.More(ahead, []byte{b[k] ^ 1<<bit}), b[k+1:]) ^ was
			if other, ok := place[turned]; turned == 0 || ok {
				t.Fatalf("byte %d, bit %d: the sum turns by %#04x, as at %d", k, bit, turned, other)
			}
			place[turned] = k
		}
		ahead = sum.More(ahead, b[k:k+1])
	}
	for i := 0; i < 8*n; i += 997 {
		for j := 0; j < i; j += 1009 {
			turn(b, i)
			one := sum.Of(b) ^ was
			turn(b, j)
			both := sum.Of(b) ^ was
			turn(b, i)
			if both == 0 || both != one^sum.Of(b)^was {
				t.Errorf("bits %d and %d: %#04x", i, j, both)
			}
			turn(b, j)
		}
	}
}

// Bits within 16 side by side are turned, one at least: each such pattern at each place of a few bytes.
func TestSideBySide(t *testing.T) {
	b := noise(6)
	was := sum.Of(b)
	for at := range 8*len(b) - 15 {
		for pattern := 1; pattern < 1<<16; pattern++ {
			long := uint64(pattern) << (8*len(b) - 16 - at)
			c := bytes.Clone(b)
			for i := range c {
				c[i] ^= byte(long >> (8 * (len(c) - 1 - i)))
			}
			if sum.Of(c) == was {
				t.Fatalf("%#04x at %d", pattern, at)
			}
		}
	}
}

// The same in 4000 bytes, at some places.
func TestSideBySideOfMany(t *testing.T) {
	b := noise(4000)
	was := sum.Of(b)
	for _, at := range []int{0, 1, 7, 8, 15999, 31983, 31984} {
		for _, pattern := range []int{1, 3, 0x1021, 0x8000, 0x8001, 0x8811, 0xa5a5, 0xffff} {
			for i := range 16 {
				if pattern>>i&1 == 1 {
					turn(b, at+15-i)
				}
			}
			if sum.Of(b) == was {
				t.Errorf("%#04x at %d", pattern, at)
			}
			b = noise(4000)
		}
	}
}
