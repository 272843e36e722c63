package spot_test

import (
	"bytes"
	"fmt"
	"math"
	"testing"

	"kibitzer/api"
	"kibitzer/spot"
)

// model keeps all bytes that came, and goes through them from the first on, in the words of the document.
type model struct {
	width int
	came  []byte
}

func (m *model) at() (col, row int64) {
	width := int64(m.width)
	for b := m.came; len(b) > 0; {
		n := 1
		switch {
		case b[0] == 0x1b && len(b) < 2, b[0] == 0x1b && b[1] == '[' && len(b) < 3:
			return col, row
		case b[0] == 0x1b && b[1] != '[':
			n = 2
		case b[0] == 0x1b:
			n = 3
			col, row = arrow(b[2], width, col, row)
		default:
			col, row = single(b[0], width, col, row)
		}
		b = b[n:]
	}
	return col, row
}

func arrow(c byte, width, col, row int64) (int64, int64) {
	if c == 'A' && row > 0 {
		row--
	}
	if c == 'B' {
		row++
	}
	if c == 'C' && col < width-1 {
		col++
	}
	if c == 'D' && col > 0 {
		col--
	}
	return col, row
}

func single(c byte, width, col, row int64) (int64, int64) {
	switch c {
	case 13:
		return 0, row
	case 10:
		return col, row + 1
	case 8:
		if col == 0 {
			return 0, row
		}
		return col - 1, row
	case 9:
		for next := col + 1; next < width; next++ {
			if next%8 == 0 {
				return next, row
			}
		}
		return width - 1, row
	case 0x7f:
		return col, row
	}
	if c < 0x20 {
		return col, row
	}
	if col+1 == width {
		return 0, row + 1
	}
	return col + 1, row
}

// is holds where a spot is against where it must be.
func is(t *testing.T, s *spot.Spot, why string, col, row int64) {
	t.Helper()
	if c, r := s.At(); c != col || r != row {
		t.Fatalf("%s: %d, %d, not %d, %d", why, c, r, col, row)
	}
}

// ways puts a text as a whole, and in two and three pieces, and byte by byte, each time to a new spot.
func ways(t *testing.T, width int, text string, check func(s *spot.Spot, why string)) {
	t.Helper()
	put := func(pieces ...string) {
		t.Helper()
		s := spot.New(width)
		for _, p := range pieces {
			s.Put([]byte(p))
		}
		check(s, fmt.Sprintf("width %d, %q", width, pieces))
	}
	put(text)
	for i := range len(text) + 1 {
		put(text[:i], text[i:])
		put(text[:i], "", text[i:])
		for j := i; j <= len(text); j++ {
			put(text[:i], text[i:j], text[j:])
		}
	}
	var single []string
	for i := range len(text) {
		single = append(single, text[i:i+1])
	}
	put(single...)
}

// noise is bytes of those handed in, without a plain pattern, always the same ones.
func noise(n int, of string, seed uint32) []byte {
	b := make([]byte, n)
	x := seed
	for i := range b {
		x = x*1664525 + 1013904223
		b[i] = of[int(x>>16)%len(of)]
	}
	return b
}

// all is each byte there is.
func all() string {
	b := make([]byte, 256)
	for i := range b {
		b[i] = byte(i)
	}
	return string(b)
}

// P7.1: what each kind of byte does, written out, in whatever pieces.
func TestKnown(t *testing.T) {
	for _, c := range []struct {
		why      string
		width    int
		text     string
		col, row int64
	}{
		{"nothing", 9, "", 0, 0},
		{"the document's example", 4, "abcde", 1, 1},
		{"signs", 9, "abc", 3, 0},
		{"a space and ~", 9, " ~", 2, 0},
		{"bytes above 0x7f, each by itself", 9, "\x80\x9b\xff\u00e9", 5, 0},
		{"[ and letters without 0x1b", 9, "[ABCD", 5, 0},
		{"up to the last column", 4, "abc", 3, 0},
		{"the last column", 4, "abcd", 0, 1},
		{"two rows", 4, "abcdefgh", 0, 2},
		{"a carriage return", 9, "abc\r", 0, 0},
		{"a carriage return in the column 0", 9, "\r", 0, 0},
		{"a carriage return leaves the row", 4, "abcdef\r", 0, 1},
		{"a line feed", 9, "\n", 0, 1},
		{"a line feed leaves the column", 9, "abc\n", 3, 1},
		{"a line feed in the last column", 4, "abc\n", 3, 1},
		{"a carriage return and a line feed", 9, "ab\r\ncd", 2, 1},
		{"a backspace", 9, "abc\b", 2, 0},
		{"a backspace in the column 0", 9, "\b", 0, 0},
		{"a backspace in the column 0 of another row", 4, "abcd\b", 0, 1},
		{"more backspaces than columns", 9, "ab\b\b\bc", 1, 0},
		{"a tab in the column 0", 20, "\t", 8, 0},
		{"a tab in the column 1", 20, "a\t", 8, 0},
		{"a tab in the column 7", 20, "1234567\t", 8, 0},
		{"a tab in the column 8", 20, "12345678\t", 16, 0},
		{"two tabs", 20, "\t\t", 16, 0},
		{"a tab to the last column", 20, "\t\t\t", 19, 0},
		{"a tab in the last column", 20, "\t\t\t\t", 19, 0},
		{"a sign behind that", 20, "\t\t\ta", 0, 1},
		{"a tab to the multiple of 8 that is the last column", 9, "\t", 8, 0},
		{"a tab in that one", 9, "\t\t", 8, 0},
		{"a tab to one less than a multiple of 8", 8, "\t", 7, 0},
		{"a tab of one more", 10, "\t\t", 9, 0},
		{"a tab of few columns", 3, "\t", 2, 0},
		{"a tab leaves the row", 20, "\n\n\t", 8, 2},
		{"A", 9, "ab\n\n\x1b[A", 2, 1},
		{"A in the row 0", 9, "ab\x1b[A", 2, 0},
		{"more A than rows", 9, "\n\n\x1b[A\x1b[A\x1b[A\n", 0, 1},
		{"B", 9, "ab\x1b[B", 2, 1},
		{"C", 9, "ab\x1b[C", 3, 0},
		{"C in the last column", 3, "ab\x1b[C", 2, 0},
		{"more C than columns", 3, "\x1b[C\x1b[C\x1b[C\x1b[C", 2, 0},
		{"a sign behind that", 3, "\x1b[C\x1b[C\x1b[Ca", 0, 1},
		{"D", 9, "ab\x1b[D", 1, 0},
		{"D in the column 0", 9, "\n\x1b[D", 0, 1},
		{"more D than columns", 9, "ab\x1b[D\x1b[D\x1b[Dc", 1, 0},
		{"A, B, C and D that are no signs", 9, "\n\x1b[A\x1b[B\x1b[C\x1b[D", 0, 1},
		{"0x1b at the end", 9, "ab\x1b", 2, 0},
		{"0x1b and [ at the end", 9, "ab\x1b[", 2, 0},
		{"0x1b and any byte but [", 9, "\x1bAb", 1, 0},
		{"0x1b and a line feed", 9, "ab\x1b\n", 2, 0},
		{"0x1b twice: then [ is a sign", 9, "\x1b\x1b[A", 2, 0},
		{"0x1b thrice", 9, "\n\x1b\x1b\x1b[A", 0, 0},
		{"0x1b, [ and any other byte", 9, "\x1b[Zc", 1, 0},
		{"0x1b, [ and a small letter", 9, "\n\x1b[aa", 1, 1},
		{"0x1b, [ and a digit: then the letter is a sign", 9, "\x1b[1A", 1, 0},
		{"0x1b, [ twice", 9, "\x1b[[A", 1, 0},
		{"0x1b, [ and 0x1b: then [ is a sign", 9, "\x1b[\x1b[A", 2, 0},
		{"0x1b, [ and a carriage return", 9, "ab\x1b[\r", 2, 0},
		{"0, 7, 0x0b, 0x0c, 0x1f and 0x7f", 9, "a\x00\x07\x0b\x0c\x1f\x7f", 1, 0},
		{"a width of 1: each sign is a row", 1, "abc", 0, 3},
		{"a width of 1: all else in the column 0", 1, "\t\x1b[C\b\x1b[D\r", 0, 0},
	} {
		ways(t, c.width, c.text, func(s *spot.Spot, how string) {
			t.Helper()
			is(t, s, c.why+": "+how, c.col, c.row)
		})
	}
}

// P7.1: below 1 counts as 1, above MaxWidth as that.
func TestWidths(t *testing.T) {
	type pair struct{ width, want int }
	widths := []pair{
		{math.MinInt, 1}, {-1 << 32, 1}, {-500, 1}, {-1, 1}, {0, 1}, {501, 500}, {502, 500}, {1000, 500}, {65536, 500},
		{1 << 32, 500}, {1<<32 + 1, 500}, {math.MaxInt - 1, 500}, {math.MaxInt, 500},
	}
	for w := 1; w <= api.MaxWidth; w++ {
		widths = append(widths, pair{w, w})
	}
	for _, w := range widths {
		s := spot.New(w.width)
		is(t, s, "new", 0, 0)
		last := int64(w.want - 1)
		why := fmt.Sprintf("width %d", w.width)
		for row := range int64(3) {
			for col := range int64(w.want) {
				is(t, s, why, col, row)
				s.Put([]byte("x"))
			}
		}
		is(t, s, why, 0, 3)
		for range w.want + 1 {
			s.Put([]byte("\x1b[C"))
		}
		is(t, s, why+", more C than columns", last, 3)
		s.Put([]byte("\r"))
		for range w.want/8 + 2 {
			s.Put([]byte("\t"))
		}
		is(t, s, why+", more tabs than there are", last, 3)
		s.Put([]byte("x"))
		is(t, s, why+", a sign behind them", 0, 4)
	}
}

// P7.1: a tab of each column.
func TestTabs(t *testing.T) {
	for _, width := range []int{1, 2, 7, 8, 9, 10, 15, 16, 17, 80, 499, 500, 501} {
		for col := range min(width, 500) {
			m := &model{width: min(width, 500), came: bytes.Repeat([]byte("x"), col)}
			s := spot.New(width)
			s.Put(m.came)
			s.Put([]byte("\t"))
			m.came = append(m.came, '\t')
			c, r := m.at()
			is(t, s, fmt.Sprintf("width %d, a tab in the column %d", width, col), c, r)
		}
	}
}

// P7.1: each byte in each corner and in the midst, behind nothing, behind 0x1b, and behind 0x1b and [; and that what comes next stands by itself again.
func TestEachByte(t *testing.T) {
	const width = 12
	places := []string{
		"", "12345", "12345678901", // the row 0
		"\n\n", "\n\n12345", "\n\n12345678", "\n\n12345678901",
	}
	for _, place := range places {
		for _, ahead := range []string{"", "\x1b", "\x1b["} {
			for c := range 256 {
				for _, behind := range []string{"", "x", "[A", "\x1b[B", "\x1b", "\n"} {
					text := place + ahead + string([]byte{byte(c)}) + behind
					m := &model{width: width, came: []byte(text)}
					col, row := m.at()
					whole, single := spot.New(width), spot.New(width)
					whole.Put([]byte(text))
					for i := range len(text) {
						single.Put([]byte{text[i]})
					}
					is(t, whole, fmt.Sprintf("%q", text), col, row)
					is(t, single, fmt.Sprintf("%q byte by byte", text), col, row)
				}
			}
		}
	}
}

// P7.1: all texts of up to four of these bytes, of few columns, behind each byte of them.
func TestAllTexts(t *testing.T) {
	const of = "x\r\n\b\t\x1b[ABCD\x07"
	for _, width := range []int{0, 1, 2, 3, 10} {
		columns := max(width, 1)
		for n := 1; n <= 4; n++ {
			total := 1
			for range n {
				total *= len(of)
			}
			for k := range total {
				text := make([]byte, n)
				for i := range text {
					text[i] = of[k%len(of)]
					k /= len(of)
				}
				s, m := spot.New(width), &model{width: columns}
				for _, c := range text {
					s.Put([]byte{c})
					m.came = append(m.came, c)
					col, row := m.at()
					if c, r := s.At(); c != col || r != row {
						t.Fatalf("width %d, %q: %d, %d, not %d, %d", width, m.came, c, r, col, row)
					}
				}
			}
		}
	}
}

// P7.1: long texts of bytes of many kinds, in pieces of many lengths, none among them.
func TestNoise(t *testing.T) {
	kinds := []string{all(), "x\r\n\b\t\x1b[ABCD\x07\x7f", "xyz\n\x1b[A\x1b[A\x1b[B\x1b[C\x1b[D\t", "\x1b[ABCD", "\x1b[", "wxyz\b\t"}
	for i, of := range kinds {
		for _, width := range []int{1, 2, 3, 7, 8, 9, 16, 17, 80, 500} {
			b := noise(700, of, uint32(i*1000+width))
			s, m := spot.New(width), &model{width: width}
			for n := 0; len(b) > 0; n = (n*5 + 3) % 11 {
				piece := b[:min(n, len(b))]
				b = b[len(piece):]
				s.Put(piece)
				m.came = append(m.came, piece...)
				col, row := m.at()
				is(t, s, fmt.Sprintf("width %d, %q", width, m.came), col, row)
			}
		}
	}
}

// P7.1: rows and columns are told to the last one also where rows are many.
func TestManyRows(t *testing.T) {
	feeds := bytes.Repeat([]byte("\n"), 1<<20)
	s := spot.New(9)
	s.Put([]byte("abcdefgh"))
	for n := range int64(40) {
		is(t, s, "line feeds", 8, n<<20)
		s.Put(feeds)
	}
	row := int64(40) << 20
	for n := range int64(9) {
		is(t, s, "one line feed more", 8, row+n)
		s.Put([]byte("\n"))
	}
	row += 9
	s.Put([]byte("x"))
	is(t, s, "a sign in the last column", 0, row+1)
	s.Put([]byte("\tx"))
	is(t, s, "a tab and a sign", 0, row+2)
	s.Put([]byte("ab\x1b[A"))
	is(t, s, "two signs and A", 2, row+1)
	s.Put([]byte("\r\x1b[B\x1b[B"))
	is(t, s, "a carriage return and two B", 0, row+3)
}

// P7.1: At tells, and turns nothing, also within 0x1b, [ and what follows.
func TestAtTurnsNothing(t *testing.T) {
	s := spot.New(9)
	for i, c := range []struct {
		text     string
		col, row int64
	}{{"a", 1, 0}, {"\x1b", 1, 0}, {"[", 1, 0}, {"B", 1, 1}, {"\x1b", 1, 1}, {"x", 1, 1}, {"", 1, 1}, {"x", 2, 1}} {
		s.Put([]byte(c.text))
		for range 3 {
			is(t, s, fmt.Sprintf("piece %d, %q", i, c.text), c.col, c.row)
		}
	}
}

// P7.1: no bytes are nothing, also within 0x1b, [ and what follows.
func TestNoBytes(t *testing.T) {
	s := spot.New(9)
	for _, p := range []string{"a", "\x1b", "[", "C"} {
		s.Put(nil)
		s.Put([]byte(p))
		s.Put([]byte{})
	}
	is(t, s, "a and C", 2, 0)
}

// Rule 1: nothing panics of one that New didn't make; it is like New of 0.
func TestOwn(t *testing.T) {
	var s spot.Spot
	is(t, &s, "nothing came", 0, 0)
	b := noise(3000, all(), 7)
	s.Put(b)
	col, row := (&model{width: 1, came: b}).at()
	is(t, &s, "noise", col, row)
}

// Rule 3: what is handed in is neither changed nor kept.
func TestHandedIn(t *testing.T) {
	s := spot.New(80)
	in := []byte("ab\n\x1b[")
	was := bytes.Clone(in)
	s.Put(in[:5:5])
	if !bytes.Equal(in, was) {
		t.Errorf("Put has turned %q to %q", was, in)
	}
	copy(in, "\n\n\n\n\n")
	is(t, s, "behind what was handed in is turned", 2, 1)
	s.Put([]byte("A"))
	is(t, s, "and A", 2, 0)
}

// Rule 4: spots know nothing of each other.
func TestTwo(t *testing.T) {
	one, two := spot.New(4), spot.New(9)
	one.Put([]byte("abc\x1b"))
	two.Put([]byte("[A\n"))
	one.Put([]byte("["))
	two.Put([]byte("Bx\x1b"))
	one.Put([]byte("B"))
	two.Put([]byte("B"))
	is(t, one, "one", 3, 1)
	is(t, two, "two", 4, 1)
}
