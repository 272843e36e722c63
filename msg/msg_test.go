package msg_test

import (
	"bytes"
	"math"
	"strings"
	"testing"

	"kibitzer/api"
	"kibitzer/frame"
	"kibitzer/msg"
)

// rule is what a kind has, in the document's words; its numbers are written out, so that no constant is held against itself.
type rule struct {
	kind   msg.Kind
	number int
	a, b   bool
	text   int
}

var rules = []rule{
	{msg.Hello, 1, true, true, 20},
	{msg.Keys, 2, true, false, 2042},
	{msg.Ping, 3, false, false, 0},
	{msg.Bye, 4, false, false, 0},
	{msg.Welcome, 5, true, true, 20},
	{msg.Data, 6, true, false, 2042},
	{msg.Gap, 7, true, true, 0},
	{msg.Reject, 8, true, true, 0},
	{msg.Floor, 9, true, false, 0},
	{msg.Notice, 10, false, false, 80},
	{msg.Denied, 11, false, false, 80},
	{msg.Evicted, 12, false, false, 0},
	{msg.Closed, 13, true, false, 0},
	{msg.Pong, 14, false, false, 0},
	{msg.Exit, 15, true, false, 0},
}

// ruleOf is the rule of a kind's number; false: it is none.
func ruleOf(number int) (rule, bool) {
	for _, r := range rules {
		if r.number == number {
			return r, true
		}
	}
	return rule{}, false
}

// head is how many bytes A and B have, as far as a kind has them.
func (r rule) head() int {
	n := 0
	if r.a {
		n += 6
	}
	if r.b {
		n += 6
	}
	return n
}

// right is Right in the document's words.
func right(m msg.Msg) bool {
	r, ok := ruleOf(int(m.Kind))
	return ok && rightNumber(r.a, m.A) && rightNumber(r.b, m.B) && len(m.Text) <= r.text
}

func rightNumber(has bool, n int64) bool {
	return n == 0 || has && n >= 1 && n <= 1099511627776
}

// six is a number's bytes, the highest one first.
func six(n int64) []byte {
	b := make([]byte, 6)
	for i := 5; i >= 0; i-- {
		b[i] = byte(n % 256)
		n /= 256
	}
	return b
}

// bodyOf is the body of a message that is right.
func bodyOf(m msg.Msg) []byte {
	r, _ := ruleOf(int(m.Kind))
	var b []byte
	if r.a {
		b = append(b, six(m.A)...)
	}
	if r.b {
		b = append(b, six(m.B)...)
	}
	return append(b, m.Text...)
}

// read is Of in the document's words.
func read(f frame.Frame) (msg.Msg, bool) {
	r, ok := ruleOf(int(f.Kind))
	if !ok || len(f.Body) < r.head() {
		return msg.Msg{}, false
	}
	m, rest := msg.Msg{Kind: r.kind}, f.Body
	for _, part := range []struct {
		has bool
		n   *int64
	}{{r.a, &m.A}, {r.b, &m.B}} {
		if part.has {
			for _, c := range rest[:6] {
				*part.n = *part.n*256 + int64(c)
			}
			rest = rest[6:]
		}
	}
	m.Text = string(rest)
	if !right(m) {
		return msg.Msg{}, false
	}
	return m, true
}

// noise is bytes without a plain pattern, always the same ones.
func noise(n int) []byte {
	b := make([]byte, n)
	x := uint32(n)
	for i := range b {
		x = x*1664525 + 1013904223
		b[i] = byte(x >> 24)
	}
	return b
}

// written holds all calls of a message that is right against the document's words.
func written(t *testing.T, m msg.Msg) {
	t.Helper()
	body := bodyOf(m)
	f, ok := m.Frame()
	if !m.Right() || !ok || int(f.Kind) != int(m.Kind) || !bytes.Equal(f.Body, body) {
		t.Fatalf("%#v: Right %v, Frame %d %x, %v, not %x", m, m.Right(), f.Kind, f.Body, ok, body)
	}
	if got, ok := msg.Of(f); !ok || got != m {
		t.Fatalf("%#v: Of its frame is %#v, %v", m, got, ok)
	}
	ahead := []byte("ahead")
	b := msg.Put(ahead, m)
	if !bytes.Equal(b, frame.Put(ahead, frame.Frame{Kind: byte(m.Kind), Body: body})) {
		t.Fatalf("%#v: Put is %x", m, b)
	}
	if m.Size() != len(body)+5 || m.Size() != len(b)-len(ahead) {
		t.Fatalf("%#v: Size %d of %d bytes", m, m.Size(), len(b)-len(ahead))
	}
	got, n, err := frame.Get(msg.Put(nil, m))
	if err != api.OK || n != m.Size() || got.Kind != f.Kind || !bytes.Equal(got.Body, body) {
		t.Fatalf("%#v: as bytes %d %x, %d, %s", m, got.Kind, got.Body, n, err.Word())
	}
}

// unwritten holds all calls of a message that isn't right against the document's words.
func unwritten(t *testing.T, m msg.Msg) {
	t.Helper()
	f, ok := m.Frame()
	if m.Right() || ok || f.Kind != 0 || len(f.Body) != 0 {
		t.Fatalf("%#v: Right %v, Frame %d %x, %v", m, m.Right(), f.Kind, f.Body, ok)
	}
	for _, ahead := range [][]byte{nil, {}, {9}, noise(300)} {
		if got := msg.Put(ahead, m); !bytes.Equal(got, ahead) {
			t.Fatalf("%#v: Put behind %x is %x", m, ahead, got)
		}
	}
	if m.Size() != 0 {
		t.Fatalf("%#v: Size %d", m, m.Size())
	}
}

// holds takes a message as right or not by the document's words.
func holds(t *testing.T, m msg.Msg) {
	t.Helper()
	if right(m) {
		written(t, m)
	} else {
		unwritten(t, m)
	}
}

// sameOf holds Of of a frame against the document's words, and that it leaves the frame as it is.
func sameOf(t *testing.T, f frame.Frame) {
	t.Helper()
	was := bytes.Clone(f.Body)
	got, ok := msg.Of(f)
	want, wantOK := read(f)
	if got != want || ok != wantOK {
		t.Fatalf("Of(%d %x) is %#v, %v, not %#v, %v", f.Kind, f.Body, got, ok, want, wantOK)
	}
	if !bytes.Equal(f.Body, was) {
		t.Fatalf("Of has turned %x to %x", was, f.Body)
	}
	if !ok {
		return
	}
	if back, ok := got.Frame(); !ok || back.Kind != f.Kind || !bytes.Equal(back.Body, f.Body) {
		t.Fatalf("%d %x is %#v, which is %d %x, %v", f.Kind, f.Body, got, back.Kind, back.Body, ok)
	}
}

// none holds that a frame is none of a message.
func none(t *testing.T, why string, kind int, body []byte) {
	t.Helper()
	if m, ok := msg.Of(frame.Frame{Kind: byte(kind), Body: body}); ok || m != (msg.Msg{}) {
		t.Errorf("%s: Of(%d, %d bytes) is %#v, %v", why, kind, len(body), m, ok)
	}
}

// P6.1: the kinds' numbers.
func TestKinds(t *testing.T) {
	if len(rules) != 15 {
		t.Fatal(len(rules))
	}
	for i, r := range rules {
		if int(r.kind) != r.number || r.number != i+1 {
			t.Errorf("the kind in place %d is %d", i+1, int(r.kind))
		}
	}
}

// P6.1, P6.2: messages whose bodies are written out.
func TestKnown(t *testing.T) {
	six0 := "\x00\x00\x00\x00\x00\x00"
	most := "\x01\x00\x00\x00\x00\x00"
	k, n, name := strings.Repeat("k", 2042), strings.Repeat("n", 80), strings.Repeat("a", 20)
	for _, c := range []struct {
		m    msg.Msg
		kind byte
		body string
	}{
		{msg.Msg{Kind: msg.Hello, A: 5, B: 1 << 40, Text: "ann"}, 1, "\x00\x00\x00\x00\x00\x05" + most + "ann"},
		{msg.Msg{Kind: msg.Hello}, 1, six0 + six0},
		{msg.Msg{Kind: msg.Hello, Text: name}, 1, six0 + six0 + name},
		{msg.Msg{Kind: msg.Keys, A: 0xab01020304, Text: "ls\n"}, 2, "\x00\xab\x01\x02\x03\x04ls\n"},
		{msg.Msg{Kind: msg.Keys, Text: k}, 2, six0 + k},
		{msg.Msg{Kind: msg.Ping}, 3, ""},
		{msg.Msg{Kind: msg.Bye}, 4, ""},
		{msg.Msg{Kind: msg.Welcome, A: 16, B: 256, Text: "owner"}, 5, "\x00\x00\x00\x00\x00\x10\x00\x00\x00\x00\x01\x00owner"},
		{msg.Msg{Kind: msg.Data, A: 1<<40 - 1, Text: "\x00\xff"}, 6, "\x00\xff\xff\xff\xff\xff\x00\xff"},
		{msg.Msg{Kind: msg.Data, A: 1 << 40, Text: k}, 6, most + k},
		{msg.Msg{Kind: msg.Gap, A: 1, B: 258}, 7, "\x00\x00\x00\x00\x00\x01\x00\x00\x00\x00\x01\x02"},
		{msg.Msg{Kind: msg.Reject, A: 65536, B: 4}, 8, "\x00\x00\x00\x01\x00\x00\x00\x00\x00\x00\x00\x04"},
		{msg.Msg{Kind: msg.Floor, A: 2}, 9, "\x00\x00\x00\x00\x00\x02"},
		{msg.Msg{Kind: msg.Notice, Text: "left 3"}, 10, "left 3"},
		{msg.Msg{Kind: msg.Notice, Text: n}, 10, n},
		{msg.Msg{Kind: msg.Denied}, 11, ""},
		{msg.Msg{Kind: msg.Evicted}, 12, ""},
		{msg.Msg{Kind: msg.Closed, A: 6}, 13, "\x00\x00\x00\x00\x00\x06"},
		{msg.Msg{Kind: msg.Pong}, 14, ""},
		{msg.Msg{Kind: msg.Exit, A: 255}, 15, "\x00\x00\x00\x00\x00\xff"},
	} {
		f, ok := c.m.Frame()
		if !ok || f.Kind != c.kind || string(f.Body) != c.body {
			t.Errorf("%#v: Frame is %d %x, %v", c.m, f.Kind, f.Body, ok)
		}
		got, ok := msg.Of(frame.Frame{Kind: c.kind, Body: []byte(c.body)})
		if !ok || got != c.m {
			t.Errorf("%#v: Of is %#v, %v", c.m, got, ok)
		}
		written(t, c.m)
	}
	if got := msg.Put([]byte("x"), msg.Msg{Kind: msg.Ping}); string(got) != "x\x00\x01\x03\xd1\x93" {
		t.Errorf("Put of a Ping is %x", got)
	}
}

// P6.1: each kind with nothing, with each of what it has alone, and with each of what it hasn't.
func TestHas(t *testing.T) {
	for _, r := range rules {
		written(t, msg.Msg{Kind: r.kind})
		for _, c := range []struct {
			m   msg.Msg
			has bool
		}{
			{msg.Msg{Kind: r.kind, A: 1}, r.a},
			{msg.Msg{Kind: r.kind, B: 1}, r.b},
			{msg.Msg{Kind: r.kind, Text: "x"}, r.text > 0},
			{msg.Msg{Kind: r.kind, Text: "\x00"}, r.text > 0},
		} {
			if c.has {
				written(t, c.m)
			} else {
				unwritten(t, c.m)
			}
		}
	}
}

// P6.1, P6.2: each number at its bounds and beyond them, by itself and beside the other and each text at its bounds.
func TestBounds(t *testing.T) {
	numbers := []int64{
		math.MinInt64, math.MinInt64 + 1, -1 << 48, -1 << 40, -256, -1, 0, 1, 255, 256, 65535, 65536, 1<<24 - 1, 1 << 24,
		1<<32 - 1, 1 << 32, 1<<40 - 1, 1 << 40, 1<<40 + 1, 1 << 41, 1<<48 - 1, 1 << 48, 1<<48 + 1, 1<<56 + 1, math.MaxInt64,
	}
	for _, r := range rules {
		for _, a := range numbers {
			for _, b := range numbers {
				for _, n := range []int{0, r.text, r.text + 1} {
					holds(t, msg.Msg{Kind: r.kind, A: a, B: b, Text: string(noise(n))})
				}
			}
		}
	}
}

// P6.1, P6.2: each length of a text, up to well beyond its bound.
func TestTexts(t *testing.T) {
	for _, r := range rules {
		for n := range r.text + 30 {
			m := msg.Msg{Kind: r.kind, Text: string(noise(n))}
			if m.Right() != (n <= r.text) {
				t.Fatalf("kind %d, a text of %d: %v", r.number, n, m.Right())
			}
			holds(t, m)
		}
		for _, n := range []int{255, 256, 2048, 2049, 65535, 65536, 65536 + r.text, 1 << 20} {
			holds(t, msg.Msg{Kind: r.kind, Text: string(noise(n))})
		}
	}
}

// P6.1: a text is bytes, whatever they are, and its length is how many.
func TestTextBytes(t *testing.T) {
	for _, r := range rules {
		if r.text == 0 {
			continue
		}
		for c := range 256 {
			written(t, msg.Msg{Kind: r.kind, Text: string([]byte{byte(c)})})
			written(t, msg.Msg{Kind: r.kind, Text: string([]byte{'a', byte(c), 'b'})})
		}
		// Twenty bytes are ten of these letters.
		written(t, msg.Msg{Kind: r.kind, Text: strings.Repeat("é", r.text/2)})
		unwritten(t, msg.Msg{Kind: r.kind, Text: strings.Repeat("é", r.text/2+1)})
	}
}

// P6.1: kinds that are none, such among them whose lowest byte would be one.
func TestNoKind(t *testing.T) {
	kinds := []msg.Kind{math.MinInt, math.MinInt + 1, -1 << 32, -256, -255, 256, 257, 258, 271, 512 + 3, 1<<16 + 3, 1<<32 + 3, math.MaxInt - 1, math.MaxInt}
	for k := msg.Kind(-20); k <= 0; k++ {
		kinds = append(kinds, k)
	}
	for k := msg.Kind(16); k <= 300; k++ {
		kinds = append(kinds, k)
	}
	for _, k := range kinds {
		for _, m := range []msg.Msg{{Kind: k}, {Kind: k, A: 1}, {Kind: k, A: 1, B: 2}, {Kind: k, Text: "x"}, {Kind: k, A: 1, B: 2, Text: "x"}, {Kind: k, A: -1}} {
			unwritten(t, m)
		}
	}
}

// P6.2: frames of each kind, one and none, and of each length of a body.
func TestOfLengths(t *testing.T) {
	zeros, text := make([]byte, api.MaxBody+20), noise(api.MaxBody+20)
	clear(text[:12]) // so that numbers are within their bounds
	for kind := range 256 {
		for n := range len(zeros) {
			sameOf(t, frame.Frame{Kind: byte(kind), Body: zeros[:n:n]})
		}
		for n := 0; n < len(text); n += 1 + n/40 {
			sameOf(t, frame.Frame{Kind: byte(kind), Body: text[:n:n]})
		}
		sameOf(t, frame.Frame{Kind: byte(kind)})
		if _, ok := ruleOf(kind); !ok {
			for _, n := range []int{0, 1, 6, 12, 20, 80, 2042, 2048, 2049, 1 << 17} {
				none(t, "a kind that is none", kind, make([]byte, n))
			}
		}
	}
}

// P6.2: bodies that are one byte too short or too long for their kind, or far too long.
func TestOfTooShortTooLong(t *testing.T) {
	for _, r := range rules {
		for n := range r.head() {
			none(t, "too short", r.number, make([]byte, n))
			// What is there in memory behind the body is none of it.
			none(t, "too short, with more in memory", r.number, make([]byte, n, 4000))
		}
		for _, n := range []int{r.head(), r.head() + r.text} {
			m, ok := msg.Of(frame.Frame{Kind: byte(r.number), Body: make([]byte, n)})
			if want := (msg.Msg{Kind: r.kind, Text: strings.Repeat("\x00", n-r.head())}); !ok || m != want {
				t.Errorf("kind %d, a body of %d: %#v, %v", r.number, n, m, ok)
			}
		}
		for _, more := range []int{1, 2, 6, 12, 256, api.MaxBody, 1 << 16, 1 << 20} {
			none(t, "too long", r.number, make([]byte, r.head()+r.text+more))
		}
	}
}

// P6.2: numbers of six bytes at their bounds and beyond them, A's and B's.
func TestOfNumbers(t *testing.T) {
	numbers := []int64{0, 1, 255, 256, 1<<32 + 5, 1<<40 - 1, 1 << 40, 1<<40 + 1, 1<<40 + 256, 1 << 41, 1 << 47, 255 << 40, 1<<48 - 1}
	for _, r := range rules {
		for _, a := range numbers {
			for _, b := range numbers {
				body := append(six(a), six(b)...)
				sameOf(t, frame.Frame{Kind: byte(r.number), Body: body[:r.head()]})
				sameOf(t, frame.Frame{Kind: byte(r.number), Body: append(body[:r.head()], make([]byte, r.text)...)})
			}
		}
		if r.a {
			none(t, "A above MaxOffset", r.number, append(six(1<<40+1), make([]byte, r.head()-6)...))
		}
		if r.b {
			none(t, "B above MaxOffset", r.number, append(make([]byte, 6), six(1<<40+1)...))
		}
	}
}

// P6.2: whatever the bytes.
func TestOfNoise(t *testing.T) {
	for n := range 3000 {
		b := noise(n)
		for kind := range 17 {
			sameOf(t, frame.Frame{Kind: byte(kind), Body: b})
		}
	}
	// Small bytes make numbers about the bounds.
	for bits := range 1 << 12 {
		b := make([]byte, 12)
		for i := range b {
			b[i] = byte(bits >> i & 1)
		}
		for kind := range 17 {
			sameOf(t, frame.Frame{Kind: byte(kind), Body: b})
			sameOf(t, frame.Frame{Kind: byte(kind), Body: b[:6:6]})
		}
	}
}

// P6.2: messages as bytes one behind the other.
func TestPutBehind(t *testing.T) {
	var all []byte
	for _, r := range rules {
		m := msg.Msg{Kind: r.kind, Text: string(noise(r.text))}
		was := len(all)
		all = msg.Put(all, m)
		if len(all) != was+m.Size() {
			t.Fatalf("kind %d: %d bytes more", r.number, len(all)-was)
		}
		if got := msg.Put(all, msg.Msg{Kind: r.kind, A: -1}); !bytes.Equal(got, all) {
			t.Fatalf("kind %d: what isn't right is written", r.number)
		}
	}
	for _, r := range rules {
		f, n, err := frame.Get(all)
		m, ok := msg.Of(f)
		if want := (msg.Msg{Kind: r.kind, Text: string(noise(r.text))}); err != api.OK || !ok || m != want || n != want.Size() {
			t.Fatalf("kind %d: %#v, %d, %s", r.number, m, n, err.Word())
		}
		all = all[n:]
	}
	if len(all) != 0 {
		t.Errorf("%d bytes are left", len(all))
	}
}

// Rule 3: what is handed in is neither changed nor kept, and an answer is new memory.
func TestPutOwnMemory(t *testing.T) {
	const letters = "abcdefghijklmnopqrstuvwxyz"
	room := []byte(letters)
	for _, m := range []msg.Msg{{Kind: msg.Ping}, {Kind: msg.Notice, Text: "hi"}, {Kind: msg.Ping, A: 1}, {}} {
		got := msg.Put(room[:3], m)
		was := string(got)
		if string(room) != letters {
			t.Fatalf("%#v: handed in: %q", m, room)
		}
		room[0] = 'X'
		if string(got) != was {
			t.Errorf("%#v: the answer has what was handed in: %q", m, got)
		}
		room[0] = 'a'
		clear(got)
		_ = append(got, "behind"...)
		if string(room) != letters {
			t.Errorf("%#v: what was handed in has the answer: %q", m, room)
		}
	}
}

func TestFrameOwnMemory(t *testing.T) {
	for _, r := range rules {
		m := msg.Msg{Kind: r.kind, Text: string(noise(r.text))}
		one, _ := m.Frame()
		two, _ := m.Frame()
		for i := range one.Body {
			one.Body[i] ^= 0xff
		}
		_ = append(one.Body, "behind"...)
		if !bytes.Equal(two.Body, bodyOf(m)) {
			t.Errorf("kind %d: two answers share memory", r.number)
		}
		written(t, m)
		got, ok := msg.Of(two)
		for i := range two.Body {
			two.Body[i] ^= 0xff
		}
		if !ok || got != m {
			t.Errorf("kind %d: the answer has what was handed in", r.number)
		}
	}
}
