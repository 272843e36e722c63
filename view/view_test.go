package view_test

import (
	"bytes"
	"fmt"
	"math"
	"strings"
	"testing"

	"kibitzer/api"
	"kibitzer/msg"
	"kibitzer/ring"
	"kibitzer/view"
)

// How many bytes a Gap has, and how many Data has besides its Text, and in its Text at most.
const gapSize, over, longest = 17, 11, 2042

// noise is bytes without a plain pattern, always the same ones, line feeds among them.
func noise(n int) []byte {
	b := make([]byte, n)
	x := uint32(n)
	for i := range b {
		x = x*1664525 + 1013904223
		b[i] = byte(x >> 24)
		if x>>16%7 == 0 {
			b[i] = '\n'
		}
	}
	return b
}

// filled is a ring of so much room, behind a text.
func filled(t *testing.T, size int, text string) *ring.Ring {
	t.Helper()
	r := ring.New(size)
	appends(t, r, text)
	return r
}

// appends lets bytes come that must be taken.
func appends(t *testing.T, r *ring.Ring, text string) {
	t.Helper()
	if !r.Append([]byte(text)) {
		t.Fatalf("%d bytes are refused", len(text))
	}
}

// is holds a view's At and Strikes against what they must be.
func is(t *testing.T, why string, v *view.View, at int64, strikes int) {
	t.Helper()
	if v.At() != at || v.Strikes() != strikes {
		t.Fatalf("%s: At %d, %d Strikes; not %d, %d", why, v.At(), v.Strikes(), at, strikes)
	}
}

// limits are what Next is handed besides the ring.
type limits struct{ room, most, strikes int }

// next holds Next against a message that it must tell; the zero one: nothing.
func next(t *testing.T, why string, v *view.View, r *ring.Ring, l limits, want msg.Msg) {
	t.Helper()
	got, ok := v.Next(r, l.room, l.most, l.strikes)
	if got != want || ok != (want != msg.Msg{}) {
		t.Fatalf("%s: %+v: Next tells %#v, %v, not %#v", why, l, got, ok, want)
	}
}

// The messages.
func data(a int64, text string) msg.Msg { return msg.Msg{Kind: msg.Data, A: a, Text: text} }
func gap(a, b int64) msg.Msg            { return msg.Msg{Kind: msg.Gap, A: a, B: b} }

var evicted, nothing = msg.Msg{Kind: msg.Evicted}, msg.Msg{}

// Limits that nothing of a few bytes runs into.
var wide = limits{1000, 1000, 1000}

// P12.2: the document's example.
func TestExample(t *testing.T) {
	r := filled(t, 10, "abc")
	v, l := view.New(r, 2, false), limits{100, 1, 0}
	next(t, "first", v, r, l, data(1, "b"))
	next(t, "second", v, r, l, data(2, "c"))
	next(t, "third", v, r, l, nothing)
}

// P12.1: where a viewer begins: back below 0, 0, of just what is there, one less, and more; with line and without.
func TestStart(t *testing.T) {
	for _, c := range []struct {
		why            string
		size           int
		text           string
		back           int64
		want, withLine int64
	}{
		{"the lowest back", 9, "ab\ncd", math.MinInt64, 5, 5},
		{"back one above the lowest", 9, "ab\ncd", math.MinInt64 + 1, 5, 5},
		{"back below 0", 9, "ab\ncd", -1, 5, 5},
		{"back far below 0", 9, "ab\ncd", -5, 5, 5},
		{"back 0", 9, "ab\ncd", 0, 5, 5},
		{"behind the last line", 9, "ab\ncd", 1, 4, 5},
		{"where a line begins", 9, "ab\ncd", 2, 3, 3},
		{"at a line feed", 9, "ab\ncd", 3, 2, 3},
		{"all but one", 9, "ab\ncd", 4, 1, 3},
		{"all", 9, "ab\ncd", 5, 0, 0},
		{"more than came", 9, "ab\ncd", 6, 0, 0},
		{"far more than came", 9, "ab\ncd", 1 << 40, 0, 0},
		{"the highest back", 9, "ab\ncd", math.MaxInt64, 0, 0},
		{"all, of just as much room", 5, "ab\ncd", 5, 0, 0},
		{"back 0, of less room", 4, "ab\ncd", 0, 5, 5},
		{"back below 0, of less room", 4, "ab\ncd", -2, 5, 5},
		{"all but one, of less room", 4, "ab\ncd", 3, 2, 3},
		{"all, of less room", 4, "ab\ncd", 4, 1, 3},
		{"more than is there", 4, "ab\ncd", 5, 1, 3},
		{"far more than is there", 4, "ab\ncd", math.MaxInt64, 1, 3},
		{"Base stands behind a line feed that is gone", 2, "a\nbc", 2, 2, 4},
		{"more, and Base stands behind a line feed that is gone", 2, "a\nbc", 9, 2, 4},
		{"a line feed stands at Base", 3, "a\nbc", 3, 1, 2},
		{"no line begins", 4, "abcdefg", 3, 4, 7},
		{"a line feed is the last byte", 9, "abc\n", 2, 2, 4},
		{"nothing came", 9, "", 0, 0, 0},
		{"nothing came, back below 0", 9, "", -1, 0, 0},
		{"nothing came, back above 0", 9, "", 3, 0, 0},
		{"a ring of one byte", 1, "a\nb\n", 4, 3, 4},
	} {
		r := filled(t, c.size, c.text)
		is(t, c.why, view.New(r, c.back, false), c.want, 0)
		is(t, c.why+", with line", view.New(r, c.back, true), c.withLine, 0)
		for _, line := range []bool{false, true} {
			v := view.New(r, 1, line)
			v.Again(r, c.back)
			is(t, c.why+", Again", v, c.want, 0)
		}
	}
}

// start is where a viewer begins, by what came of the output, and by how much of it is there.
func start(output []byte, size int, back int64, line bool) int64 {
	end := int64(len(output))
	base := max(end-int64(size), 0)
	at := base
	for at < end && end-at > back {
		at++
	}
	if !line {
		return at
	}
	for ; at < end; at++ {
		if at == 0 || at > base && output[at-1] == '\n' {
			return at
		}
	}
	return end
}

// P12.1: New and Again of each number, of rings of each size.
func TestEachStart(t *testing.T) {
	for _, n := range []int{0, 1, 2, 7, 30} {
		output := noise(n)
		for size := 1; size < n+3; size++ {
			r := filled(t, size, string(output))
			for back := int64(-3); back < int64(n)+4; back++ {
				why := fmt.Sprintf("%q, of them %d there, back %d", output, size, back)
				is(t, why, view.New(r, back, false), start(output, size, back, false), 0)
				is(t, why+", with line", view.New(r, back, true), start(output, size, back, true), 0)
				v := view.New(r, 0, true)
				v.Again(r, back)
				is(t, why+", Again", v, start(output, size, back, false), 0)
			}
		}
	}
}

// P12.1: Again, ahead of bytes that came meanwhile and behind bytes that are there no more.
func TestAgain(t *testing.T) {
	r := filled(t, 6, "ab\nc")
	v := view.New(r, 0, false)
	appends(t, r, "d\n")
	v.Again(r, 3)
	is(t, "back to what was there", v, 3, 0)
	next(t, "back to what was there", v, r, limits{99, 2, 0}, data(3, "cd"))
	v.Again(r, 0)
	is(t, "ahead of what it wasn't sent", v, 6, 0)
	next(t, "ahead of what it wasn't sent", v, r, wide, nothing)
	v.Again(r, 6)
	next(t, "all once more", v, r, wide, data(0, "ab\ncd\n"))

	v.Again(r, 5)
	appends(t, r, "efgh")
	is(t, "bytes are gone", v, 1, 0)
	v.Again(r, 99)
	is(t, "behind what is gone", v, 4, 0)
	next(t, "behind what is gone", v, r, limits{99, 9, 0}, data(4, "d\nefgh"))

	appends(t, r, "0123456789")
	next(t, "bytes are gone anew", v, r, wide, gap(10, 14))
	is(t, "a Gap", v, 14, 1)
	appends(t, r, "0123456789")
	v.Again(r, 2)
	is(t, "the Strikes stay", v, 28, 1)
	next(t, "the Strikes stay", v, r, limits{99, 9, 1}, data(28, "89"))
	appends(t, r, "0123456789")
	next(t, "as many Strikes as may be", v, r, limits{99, 9, 1}, evicted)
	v.Again(r, -7)
	is(t, "behind Evicted", v, 40, 1)
	next(t, "behind Evicted", v, r, wide, nothing)
}

// P12.2: At less than Base, with Strikes below strikes, and not; room of a Gap's Size, and one less.
func TestGap(t *testing.T) {
	for _, c := range []struct {
		why  string
		l    limits
		want msg.Msg
	}{
		{"one Strike below", limits{gapSize, 9, 3}, gap(2, 5)},
		{"many Strikes below", limits{99, 9, math.MaxInt}, gap(2, 5)},
		{"just as many Strikes", limits{99, 9, 2}, evicted},
		{"more Strikes", limits{99, 9, 1}, evicted},
		{"no Strikes may be", limits{99, 9, 0}, evicted},
		{"strikes below 0", limits{99, 9, -1}, evicted},
		{"the lowest strikes", limits{99, 9, math.MinInt}, evicted},
		{"one byte less room", limits{gapSize - 1, 9, 3}, evicted},
		{"room for a byte of Data", limits{over + 1, 9, 3}, evicted},
		{"no room", limits{0, 9, 3}, evicted},
		{"room below 0", limits{-1, 9, 3}, evicted},
		{"room far below 0", limits{-gapSize, 9, 3}, evicted},
		{"the lowest room", limits{math.MinInt, 9, 3}, evicted},
		{"much room", limits{math.MaxInt, 9, 3}, gap(2, 5)},
		{"one byte more room", limits{gapSize + 1, 9, 3}, gap(2, 5)},
		{"neither room nor Strikes", limits{gapSize - 1, 9, 2}, evicted},
		{"no bytes at most", limits{gapSize, 0, 3}, gap(2, 5)},
		{"bytes below 0 at most", limits{gapSize, math.MinInt, 3}, gap(2, 5)},
	} {
		// Behind two Gaps, of a byte each, the bytes from 2 to 5 are gone.
		r := filled(t, 1, "a")
		v := view.New(r, 1, false)
		for at := range int64(2) {
			appends(t, r, "b")
			next(t, c.why, v, r, wide, gap(at, at+1))
		}
		appends(t, r, "cde")
		is(t, c.why, v, 2, 2)
		next(t, c.why, v, r, c.l, c.want)
		if c.want == evicted {
			// That has turned nothing: it is told again, and a Gap, if there may be one then.
			is(t, c.why, v, 2, 2)
			next(t, c.why+", again", v, r, c.l, evicted)
			is(t, c.why+", again", v, 2, 2)
			next(t, c.why+", may be then", v, r, limits{gapSize, 9, 3}, gap(2, 5))
		}
		is(t, c.why+", behind the Gap", v, 5, 3)
		next(t, c.why+", behind the Gap", v, r, limits{99, 9, 0}, data(5, "e"))
	}
}

// P12.2: At just at Base, and one less.
func TestAtBase(t *testing.T) {
	r := filled(t, 4, "abcd")
	v, late := view.New(r, 3, false), view.New(r, 4, false)
	appends(t, r, "e")
	next(t, "at Base", v, r, limits{99, 9, 0}, data(1, "bcde"))
	next(t, "one less", late, r, limits{99, 9, 0}, evicted)
	next(t, "one less", late, r, limits{99, 9, 1}, gap(0, 1))
	next(t, "behind the Gap", late, r, limits{99, 9, 1}, data(1, "bcde"))
	is(t, "at End", v, 5, 0)
	is(t, "at End", late, 5, 1)
}

// P12.2: room of 11 and less, of 12, and of much; most of 0 and below, of 1, and of much; nothing there.
func TestData(t *testing.T) {
	numbers := []int{math.MinInt, math.MinInt + 1, math.MinInt + over - 1, math.MinInt + over, math.MinInt + over + 1, math.MinInt32, -1 << 32, -12, -11, -1, 0, 1, 2, 3, 5, 6, 10, 11, 12, 13, 14, 15, 16, 17, 18, 30, 2042, 2053, 65536, 1 << 32, 1<<32 + 1, math.MaxInt - 11, math.MaxInt - 1, math.MaxInt}
	for _, room := range numbers {
		for _, most := range numbers {
			for _, text := range []string{"", "a", "abcdef"} {
				r := filled(t, 8, "ahead"+text)
				v := view.New(r, int64(len(text)), false)
				count := 0
				for count < len(text) && count < most && over+count < room {
					count++
				}
				next(t, fmt.Sprintf("%q", text), v, r, limits{room, most, 0}, rest(5, text[:count]))
				is(t, fmt.Sprintf("%q, room %d, most %d", text, room, most), v, 5+int64(count), 0)
				next(t, "what is left", v, r, wide, rest(5+int64(count), text[count:]))
			}
		}
	}
}

// rest is the Data of a text; nothing, if there is none.
func rest(a int64, text string) msg.Msg {
	if text == "" {
		return nothing
	}
	return data(a, text)
}

// P12.2: Text of 2,042 bytes where as many are there, one less, one more, and far more.
func TestLongest(t *testing.T) {
	for _, n := range []int{longest - 1, longest, longest + 1, 2048, 2049, 2 * longest, 2*longest + 1, api.MaxCap} {
		all := string(noise(n))
		r := filled(t, api.MaxCap, all)
		for _, l := range []limits{{math.MaxInt, math.MaxInt, 0}, {longest + over, longest, 0}, {longest + over + 1, longest + 1, 0}, {longest + over, math.MaxInt, 0}, {math.MaxInt, longest, 0}} {
			v := view.New(r, math.MaxInt64, false)
			for at := 0; at < n; at += longest {
				next(t, fmt.Sprint(n, " bytes"), v, r, l, data(int64(at), all[at:min(at+longest, n)]))
			}
			next(t, fmt.Sprint(n, " bytes are sent"), v, r, l, nothing)
			is(t, fmt.Sprint(n, " bytes are sent"), v, int64(n), 0)
		}
		v := view.New(r, math.MaxInt64, false)
		next(t, "one byte less at most", v, r, limits{math.MaxInt, longest - 1, 0}, data(0, all[:longest-1]))
		v = view.New(r, math.MaxInt64, false)
		next(t, "room for one byte less", v, r, limits{longest + over - 1, math.MaxInt, 0}, data(0, all[:longest-1]))
	}
}

// P12.2: bytes of all kinds are told as they are, line feeds and those that are no text among them.
func TestAnyBytes(t *testing.T) {
	all := make([]byte, 256)
	for i := range all {
		all[i] = byte(i)
	}
	r := filled(t, 300, string(all))
	v := view.New(r, 256, false)
	next(t, "each byte", v, r, wide, data(0, string(all)))
	appends(t, r, "\r\n\xff\xfe\xe2\x82")
	for i, one := range []byte("\r\n\xff\xfe\xe2\x82") {
		next(t, "one by one", v, r, limits{over + 1, 9, 0}, data(256+int64(i), string([]byte{one})))
	}
	next(t, "one by one", v, r, wide, nothing)
}

// P12.2: where nothing can be sent nothing is turned.
func TestNothing(t *testing.T) {
	r := filled(t, 8, "abcdefghijk")
	v := view.New(r, 4, false)
	for _, l := range []limits{{over, 9, 9}, {99, 0, 9}, {99, -1, 9}, {0, 9, 9}, {-1, -1, -1}, {math.MinInt, math.MinInt, math.MinInt}} {
		next(t, "no room", v, r, l, nothing)
		is(t, "no room", v, 7, 0)
	}
	next(t, "room", v, r, limits{over + 3, 9, 0}, data(7, "hij"))
	next(t, "room", v, r, limits{over + 3, 9, 0}, data(10, "k"))
	for range 3 {
		next(t, "nothing there", v, r, wide, nothing)
		is(t, "nothing there", v, 11, 0)
	}
	appends(t, r, "l")
	next(t, "a byte came", v, r, wide, data(11, "l"))
}

// P12.3: what is sent of a New, in whatever pieces bytes come and are sent: each Data and Gap begins where the one ahead of it ended.
func TestChain(t *testing.T) {
	for _, size := range []int{1, 2, 3, 7, 20, 100, 3000} {
		for seed := range 12 {
			x := uint32(size*100 + seed)
			below := func(n int) int {
				x = x*1664525 + 1013904223
				return int(x>>8) % n
			}
			r, output := ring.New(size), noise(below(2*size+1))
			appends(t, r, string(output))
			v := view.New(r, int64(below(size+2)-1), below(2) == 0)
			c := &chain{output: output, size: size, at: v.At()}
			for range 400 {
				if below(3) == 0 {
					more := noise(below(size + size/3 + 2))
					appends(t, r, string(more))
					c.output = append(c.output, more...)
				}
				l := limits{below(size+30) - 3, below(size+4) - 2, c.strikes + below(4) - 1}
				m, ok := v.Next(r, l.room, l.most, l.strikes)
				c.take(t, l, m, ok)
				is(t, fmt.Sprintf("size %d, behind %#v", size, m), v, c.at, c.strikes)
			}
			if c.gaps == 0 || c.datas == 0 || c.evicted == 0 || c.nothing == 0 {
				t.Errorf("size %d: %d Gaps, %d Data, %d Evicted, %d times nothing", size, c.gaps, c.datas, c.evicted, c.nothing)
			}
		}
	}
}

// chain is what was sent to a viewer, and all of the output.
type chain struct {
	output                        []byte
	size                          int
	at                            int64
	strikes                       int
	gaps, datas, evicted, nothing int
}

// take holds what Next tells against what may be sent then.
func (c *chain) take(t *testing.T, l limits, m msg.Msg, ok bool) {
	t.Helper()
	end := int64(len(c.output))
	base := max(end-int64(c.size), 0)
	switch {
	case c.at < base && c.strikes < l.strikes && l.room >= gapSize:
		if m != gap(c.at, base) || !ok {
			t.Fatalf("size %d, at %d: %+v: %#v, %v, not a Gap to %d", c.size, c.at, l, m, ok, base)
		}
		c.at, c.strikes, c.gaps = base, c.strikes+1, c.gaps+1
	case c.at < base:
		if m != evicted || !ok {
			t.Fatalf("size %d, at %d: %+v: %#v, %v, not Evicted", c.size, c.at, l, m, ok)
		}
		c.evicted++
	case c.at == end || l.room <= over || l.most <= 0:
		if m != nothing || ok {
			t.Fatalf("size %d, at %d: %+v: %#v, %v, not nothing", c.size, c.at, l, m, ok)
		}
		c.nothing++
	default:
		upTo := c.at + int64(len(m.Text))
		if m.Kind != msg.Data || m.A != c.at || m.B != 0 || upTo > end || m.Text != string(c.output[c.at:upTo]) || !m.Right() || !ok {
			t.Fatalf("size %d, at %d: %+v: %#v, %v, which isn't the output's", c.size, c.at, l, m, ok)
		}
		// No more than may be sent, and no less: one byte more is there no more, or has no room, or is too many.
		n := len(m.Text)
		isAll := upTo == end || n == l.most || m.Size() == l.room || n == longest
		if n < 1 || n > l.most || n > longest || m.Size() > l.room || !isAll {
			t.Fatalf("size %d, at %d: %+v: Data of %d bytes, End %d", c.size, c.at, l, n, end)
		}
		c.at, c.datas = upTo, c.datas+1
	}
}

// P12.3: a viewer to whom enough is sent while nothing more comes has all that there is, byte by byte.
func TestAll(t *testing.T) {
	output := noise(5000)
	for _, l := range []limits{{over + 1, 9, 0}, {99, 1, 0}, {over + 7, 512, 0}, {512, 512, 0}, {math.MaxInt, math.MaxInt, 0}} {
		r := filled(t, 5000, string(output))
		v := view.New(r, 4321, false)
		var sent bytes.Buffer
		for range len(output) + 1 {
			at := v.At()
			m, ok := v.Next(r, l.room, l.most, l.strikes)
			if !ok {
				break
			}
			if m.Kind != msg.Data || m.A != at {
				t.Fatalf("%+v: %#v", l, m)
			}
			sent.WriteString(m.Text)
		}
		if sent.String() != string(output[5000-4321:]) || v.At() != 5000 {
			t.Errorf("%+v: %d bytes are sent, up to %d", l, sent.Len(), v.At())
		}
	}
}

// P12.2: the numbers of the last bytes that may come, which a message can have yet.
func TestMaxOffset(t *testing.T) {
	r := ring.New(3)
	v := view.New(r, 0, false)
	piece := strings.Repeat("x", 1<<26)
	for range api.MaxOffset/len(piece) - 1 {
		appends(t, r, piece)
	}
	appends(t, r, piece[3:]+"a\nb")
	const end = api.MaxOffset
	is(t, "back 2", view.New(r, 2, false), end-2, 0)
	is(t, "back far more", view.New(r, math.MaxInt64, false), end-3, 0)
	is(t, "with line", view.New(r, 3, true), end-1, 0)
	is(t, "back below 0", view.New(r, math.MinInt64, true), end, 0)
	next(t, "no room", v, r, limits{gapSize - 1, 9, 1}, evicted)
	next(t, "from 0 on", v, r, limits{gapSize, 9, 1}, gap(0, end-3))
	next(t, "behind the Gap", v, r, limits{99, 2, 1}, data(end-3, "a\n"))
	next(t, "the last byte", v, r, limits{99, 2, 1}, data(end-1, "b"))
	next(t, "at the end", v, r, limits{99, 2, 1}, nothing)
	is(t, "at the end", v, end, 1)
}

// Rules 3 and 4: views know nothing of each other, and turn nothing in the ring.
func TestTwo(t *testing.T) {
	r := filled(t, 6, "abcdef")
	one, two := view.New(r, 4, false), view.New(r, 6, false)
	next(t, "one", one, r, limits{99, 3, 9}, data(2, "cde"))
	is(t, "two", two, 0, 0)
	appends(t, r, "gh")
	next(t, "two", two, r, wide, gap(0, 2))
	is(t, "one", one, 5, 0)
	two.Again(r, 1)
	next(t, "one", one, r, wide, data(5, "fgh"))
	next(t, "two", two, r, wide, data(7, "h"))
	is(t, "one that is made later", view.New(r, 2, false), 6, 0)
	if b, ok := r.Read(2, 99); !ok || string(b) != "cdefgh" || r.Base() != 2 || r.End() != 8 {
		t.Errorf("the ring has %q from %d to %d", b, r.Base(), r.End())
	}
}

// Rule 1: one that New didn't make panics at nothing, and begins at 0; nor does one of a ring that isn't its own, or that ring's New didn't make.
func TestNotNew(t *testing.T) {
	r := filled(t, 4, "abcdef")
	var v view.View
	is(t, "not new", &v, 0, 0)
	next(t, "not new", &v, r, limits{99, 9, 0}, evicted)
	next(t, "not new", &v, r, limits{99, 9, 1}, gap(0, 2))
	next(t, "not new", &v, r, limits{99, 9, 1}, data(2, "cdef"))
	next(t, "a ring that ends ahead of At", &v, filled(t, 4, "abc"), wide, nothing)
	is(t, "a ring that ends ahead of At", &v, 6, 1)

	var none ring.Ring
	w := view.New(&none, 3, true)
	is(t, "a ring that New didn't make", w, 0, 0)
	next(t, "a ring that New didn't make", w, &none, wide, nothing)
	w.Again(&none, 1)
	is(t, "a ring that New didn't make", w, 0, 0)
}
