package ring_test

import (
	"bytes"
	"math"
	"testing"

	"kibitzer/api"
	"kibitzer/ring"
)

// model keeps all that came, and answers in the words of the document.
type model struct {
	size int64
	all  []byte
}

func (m *model) end() int64 { return int64(len(m.all)) }

func (m *model) base() int64 {
	if m.end() < m.size {
		return 0
	}
	return m.end() - m.size
}

func (m *model) read(off int64, n int) ([]byte, bool) {
	if off < m.base() || off > m.end() {
		return nil, false
	}
	var b []byte
	for i := off; i < m.end() && i-off < int64(n); i++ {
		b = append(b, m.all[i])
	}
	return b, true
}

func (m *model) line(off int64) int64 {
	if off < m.base() {
		off = m.base()
	}
	for at := off; at < m.end(); at++ {
		if at == 0 || at > m.base() && m.all[at-1] == '\n' {
			return at
		}
	}
	return m.end()
}

// same holds a ring against a model, at all numbers from a few below Base to a few beyond End.
func same(t *testing.T, r *ring.Ring, m *model) {
	t.Helper()
	if r.Base() != m.base() || r.End() != m.end() {
		t.Fatalf("size %d behind %q: Base %d, End %d, not %d, %d", m.size, m.all, r.Base(), r.End(), m.base(), m.end())
	}
	offs := []int64{math.MinInt64, -1 << 40, math.MaxInt64 - 1, math.MaxInt64}
	for off := int64(-3); off <= m.end()+3; off++ {
		offs = append(offs, off)
	}
	for _, off := range offs {
		if got, want := r.Line(off), m.line(off); got != want {
			t.Fatalf("size %d behind %q: Line(%d) is %d, not %d", m.size, m.all, off, got, want)
		}
		for _, n := range []int{math.MinInt, -1, 0, 1, 2, 3, int(m.size), int(m.size) + 1, math.MaxInt} {
			got, ok := r.Read(off, n)
			want, wantOK := m.read(off, n)
			if ok != wantOK || !bytes.Equal(got, want) {
				t.Fatalf("size %d behind %q: Read(%d, %d) is %q, %v, not %q, %v", m.size, m.all, off, n, got, ok, want, wantOK)
			}
		}
	}
}

func filled(t *testing.T, size int, text string) *ring.Ring {
	t.Helper()
	r := ring.New(size)
	if !r.Append([]byte(text)) {
		t.Fatalf("Append of %q is refused", text)
	}
	return r
}

// P1.1, P1.2: whatever pieces the bytes come in, for small sizes.
func TestPieces(t *testing.T) {
	text := []byte("ab\n\ncde\nf\nghij\n\n\nk\nlmnopq\nr")
	for size := 1; size <= len(text)+1; size++ {
		for piece := 1; piece <= len(text); piece++ {
			r, m := ring.New(size), &model{size: int64(size)}
			same(t, r, m)
			for rest := text; len(rest) > 0; {
				n := min(piece, len(rest))
				if !r.Append(rest[:n]) {
					t.Fatal("Append is refused")
				}
				m.all = append(m.all, rest[:n]...)
				rest = rest[n:]
				same(t, r, m)
			}
		}
	}
}

// P1.1, P1.2: pieces of many lengths one behind the other, none among them.
func TestUnlikePieces(t *testing.T) {
	for size := 1; size <= 9; size++ {
		r, m := ring.New(size), &model{size: int64(size)}
		x := uint32(size)
		for range 60 {
			x = x*1664525 + 1013904223
			b := make([]byte, x>>24%13)
			for i := range b {
				x = x*1664525 + 1013904223
				b[i] = "\nab"[x>>24%3]
			}
			if !r.Append(b) {
				t.Fatal("Append is refused")
			}
			m.all = append(m.all, b...)
			same(t, r, m)
		}
	}
}

// P1.1: below 1 counts as 1, above MaxCap as that.
func TestSize(t *testing.T) {
	text := bytes.Repeat([]byte("xyz"), api.MaxCap)
	for _, c := range []struct{ size, room int }{
		{math.MinInt, 1}, {-1, 1}, {0, 1}, {1, 1}, {2, 2},
		{api.MaxCap - 1, api.MaxCap - 1}, {api.MaxCap, api.MaxCap}, {api.MaxCap + 1, api.MaxCap}, {math.MaxInt, api.MaxCap},
	} {
		r := ring.New(c.size)
		if r.Base() != 0 || r.End() != 0 {
			t.Errorf("size %d: Base %d, End %d ahead of all", c.size, r.Base(), r.End())
		}
		if !r.Append(text[:c.room]) || r.Base() != 0 || r.End() != int64(c.room) {
			t.Errorf("size %d: Base %d, End %d, full", c.size, r.Base(), r.End())
		}
		if !r.Append(text[:1]) || r.Base() != 1 {
			t.Errorf("size %d: Base %d behind one more", c.size, r.Base())
		}
		if !r.Append(text) || r.End() != int64(c.room+1+len(text)) || r.Base() != r.End()-int64(c.room) {
			t.Errorf("size %d: Base %d, End %d behind more than there is room for", c.size, r.Base(), r.End())
		}
		b, ok := r.Read(r.Base(), math.MaxInt)
		if !ok || !bytes.Equal(b, text[len(text)-c.room:]) {
			t.Errorf("size %d: %d bytes are there, %v", c.size, len(b), ok)
		}
	}
}

// P1.1, P1.2: nothing appended yet, and nothing appended at all.
func TestNothing(t *testing.T) {
	r, m := ring.New(4), &model{size: 4}
	same(t, r, m)
	if !r.Append(nil) || !r.Append([]byte{}) {
		t.Error("no bytes are refused")
	}
	same(t, r, m)
	var own ring.Ring
	same(t, &own, &model{size: 1})
	if !own.Append([]byte("ab")) {
		t.Error("Append is refused")
	}
	same(t, &own, &model{size: 1, all: []byte("ab")})
}

// P1.1: no more than MaxOffset in all; what is refused changes nothing.
func TestMaxOffset(t *testing.T) {
	r := ring.New(3)
	piece := make([]byte, 1<<26)
	copy(piece[len(piece)-3:], "a\nb")
	for range api.MaxOffset/len(piece) - 1 {
		if !r.Append(piece) {
			t.Fatalf("refused at %d", r.End())
		}
	}
	check := func(end int64, kept string, line int64) {
		t.Helper()
		b, ok := r.Read(end-3, 4)
		if r.End() != end || r.Base() != end-3 || !ok || string(b) != kept || r.Line(0) != line {
			t.Errorf("End %d, Base %d, %q, %v, Line %d", r.End(), r.Base(), b, ok, r.Line(0))
		}
	}
	last := int64(api.MaxOffset - len(piece))
	check(last, "a\nb", last-1)
	if r.Append(append(piece[:len(piece):len(piece)], 'x')) {
		t.Error("one too many is taken")
	}
	check(last, "a\nb", last-1)
	if !r.Append(piece[2:]) || !r.Append([]byte("c\n")) {
		t.Error("as many as there may be are refused")
	}
	check(api.MaxOffset, "bc\n", api.MaxOffset)
	if r.Append([]byte("x")) || r.Append(piece) {
		t.Error("more than there may be is taken")
	}
	check(api.MaxOffset, "bc\n", api.MaxOffset)
	if !r.Append(nil) {
		t.Error("no bytes are refused")
	}
	check(api.MaxOffset, "bc\n", api.MaxOffset)
}

// P1.2: the edges of what is there, of 4 bytes room.
func TestRead(t *testing.T) {
	r := filled(t, 4, "ab\ncdef")
	for _, c := range []struct {
		off  int64
		n    int
		want string
		ok   bool
	}{
		{2, 4, "", false}, {-1, 4, "", false}, {8, 1, "", false}, {8, 0, "", false}, {2, 0, "", false},
		{3, 4, "cdef", true}, {3, 1, "c", true}, {3, 5, "cdef", true}, {4, 2, "de", true}, {6, 1, "f", true}, {6, 9, "f", true},
		{7, 0, "", true}, {7, 1, "", true}, {7, -1, "", true}, {3, 0, "", true}, {3, -1, "", true}, {5, math.MinInt, "", true},
	} {
		b, ok := r.Read(c.off, c.n)
		if string(b) != c.want || ok != c.ok {
			t.Errorf("Read(%d, %d) is %q, %v", c.off, c.n, b, ok)
		}
	}
	same(t, r, &model{size: 4, all: []byte("ab\ncdef")})
}

// P1.2: where lines begin, by what is there of them.
func TestLine(t *testing.T) {
	for _, c := range []struct {
		why  string
		size int
		text string
		off  int64
		want int64
	}{
		{"the document's example", 4, "ab\ncd", 0, 3},
		{"the number itself begins a line", 4, "ab\ncd", 3, 3},
		{"no line begins behind it", 4, "ab\ncd", 4, 5},
		{"at End", 4, "ab\ncd", 5, 5},
		{"beyond End", 4, "ab\ncd", 6, 5},
		{"far beyond End", 4, "ab\ncd", math.MaxInt64, 5},
		{"0 begins a line", 9, "ab\ncd", 0, 0},
		{"below 0 counts as Base, which is 0", 9, "ab\ncd", -5, 0},
		{"1 begins none", 9, "ab\ncd", 1, 3},
		{"0 begins a line, of a line feed alone", 9, "\n", 0, 0},
		{"behind a last line feed is End", 9, "a\n", 1, 2},
		{"the line feed just ahead of Base is gone", 2, "a\nbc", 0, 4},
		{"the line feed just ahead of Base is gone, another isn't", 3, "a\nb\nc", 0, 4},
		{"the line feed at Base is there", 3, "a\nbc", 0, 2},
		{"at Base, which is greater than 0", 3, "a\nbc", 1, 2},
		{"the line feed is long gone", 2, "a\nbcde", 0, 6},
		{"0 is gone", 2, "abc", 0, 3},
		{"line feeds alone, the first of them gone", 2, "\n\n\n", 0, 2},
		{"one byte is there, a line feed is gone", 1, "\na", 0, 2},
	} {
		if got := filled(t, c.size, c.text).Line(c.off); got != c.want {
			t.Errorf("%s: size %d behind %q: Line(%d) is %d, not %d", c.why, c.size, c.text, c.off, got, c.want)
		}
	}
}

// Rule 3: what is handed in is neither changed nor kept, and answers share nothing.
func TestOwnMemory(t *testing.T) {
	r := ring.New(4)
	in := []byte("abcdef")
	if !r.Append(in) || string(in) != "abcdef" {
		t.Errorf("handed in: %q", in)
	}
	copy(in, "XXXXXX")
	one, _ := r.Read(2, 4)
	two, _ := r.Read(2, 4)
	copy(one, "YYYY")
	one = append(one[:1], "ZZZZZZ"...)
	if string(two) != "cdef" || string(one) != "YZZZZZZ" {
		t.Errorf("%q, %q", one, two)
	}
	same(t, r, &model{size: 4, all: []byte("abcdef")})
	if !r.Append([]byte("gh")) || string(two) != "cdef" {
		t.Errorf("behind Append: %q", two)
	}
	other := filled(t, 4, "1234")
	same(t, r, &model{size: 4, all: []byte("abcdefgh")})
	same(t, other, &model{size: 4, all: []byte("1234")})
}
