package frame_test

import (
	"bytes"
	"testing"

	"kibitzer/api"
	"kibitzer/frame"
)

// summed is layer 2's sum in the document's words, made anew, so that a frame isn't held against what made it.
func summed(b []byte) int {
	rest := 0xffff
	for _, c := range b {
		rest ^= int(c) * 256
		for range 8 {
			rest *= 2
			if rest >= 65536 {
				rest = (rest - 65536) ^ 0x1021
			}
		}
	}
	return rest
}

// written is a frame's bytes in the document's words.
func written(kind byte, body []byte) []byte {
	inner := append([]byte{kind}, body...)
	all := []byte{byte(len(inner) / 256), byte(len(inner) % 256)}
	all = append(all, inner...)
	s := summed(inner)
	return append(all, byte(s/256), byte(s%256))
}

// read is Get in the document's words.
func read(b []byte) (frame.Frame, int, api.Errno) {
	if len(b) < 2 {
		return frame.Frame{}, 0, api.ErrShort
	}
	n := int(b[0])*256 + int(b[1])
	if n == 0 || n > 2049 {
		return frame.Frame{}, 0, api.ErrLong
	}
	if len(b) < n+4 {
		return frame.Frame{}, 0, api.ErrShort
	}
	if summed(b[2:n+2]) != int(b[n+2])*256+int(b[n+3]) {
		return frame.Frame{}, 0, api.ErrSum
	}
	return frame.Frame{Kind: b[2], Body: b[3 : n+2]}, n + 4, api.OK
}

// noise is bytes without a plain pattern, always the same ones.
func noise(n int) []byte {
	b := make([]byte, n)
	x := uint32(n)
	for i := range b {
		x = x*1664525 + 1013904223
		b[i] = byte(x >> 24)
	}
	return b
}

// same holds Get of bytes against what the document says, and that it leaves the bytes as they are.
func same(t *testing.T, b []byte) {
	t.Helper()
	was := bytes.Clone(b)
	f, n, e := frame.Get(b)
	want, wantN, wantE := read(b)
	if f.Kind != want.Kind || !bytes.Equal(f.Body, want.Body) || n != wantN || e != wantE {
		t.Fatalf("Get(%x) is %d %x, %d, %s, not %d %x, %d, %s",
			b, f.Kind, f.Body, n, e.Word(), want.Kind, want.Body, wantN, wantE.Word())
	}
	if !bytes.Equal(b, was) {
		t.Fatalf("Get has turned %x to %x", was, b)
	}
}

// refused holds Get of bytes against an error, beside which all else is zero.
func refused(t *testing.T, why string, b []byte, want api.Errno) {
	t.Helper()
	f, n, e := frame.Get(b)
	if e != want || n != 0 || f.Kind != 0 || len(f.Body) != 0 {
		t.Errorf("%s: %d %x, %d, %s, not %s", why, f.Kind, f.Body, n, e.Word(), want.Word())
	}
}

// taken holds Get of bytes against the frame with which they begin.
func taken(t *testing.T, why string, b []byte, kind byte, body []byte) {
	t.Helper()
	f, n, e := frame.Get(b)
	if e != api.OK || n != len(body)+5 || f.Kind != kind || !bytes.Equal(f.Body, body) {
		t.Errorf("%s: %d and %d bytes, %d, %s", why, f.Kind, len(f.Body), n, e.Word())
	}
}

// known is frames whose bytes are written out.
var known = []struct {
	why   string
	kind  byte
	body  string
	bytes string
}{
	{"the document's example", 7, "", "\x00\x01\x07\x91\x17"},
	{"all is 0", 0, "", "\x00\x01\x00\xe1\xf0"},
	{"the highest kind", 255, "", "\x00\x01\xff\xff\x00"},
	{"a body", 7, "hi", "\x00\x03\x07hi\x36\x00"},
	{"a known sum", '1', "23456789", "\x00\x09123456789\x29\xb1"},
	{"one byte for the number is just enough", 1, string(make([]byte, 254)), "\x00\xff\x01" + string(make([]byte, 254)) + "\x1b\x8c"},
	{"one byte for the number isn't enough", 1, string(make([]byte, 255)), "\x01\x00\x01" + string(make([]byte, 255)) + "\x2f\x5a"},
	{"MaxBody", 0, string(make([]byte, 2048)), "\x08\x01\x00" + string(make([]byte, 2048)) + "\x0d\xe9"},
}

func TestOver(t *testing.T) {
	if frame.Over != 5 {
		t.Error(frame.Over)
	}
	for _, n := range []int{0, 1, 255, 256, api.MaxBody} {
		if got := len(frame.Put(nil, frame.Frame{Body: make([]byte, n)})); got != n+frame.Over {
			t.Errorf("a body of %d: %d bytes", n, got)
		}
	}
}

// P3.1: at most MaxBody bytes, whatever the kind.
func TestRight(t *testing.T) {
	for _, kind := range []byte{0, 1, 7, 15, 16, 255} {
		for _, c := range []struct {
			n    int
			want bool
		}{{0, true}, {1, true}, {api.MaxBody - 1, true}, {api.MaxBody, true}, {api.MaxBody + 1, false}, {1 << 16, false}, {1<<16 + 1, false}, {1 << 20, false}} {
			if got := (frame.Frame{Kind: kind, Body: make([]byte, c.n)}).Right(); got != c.want {
				t.Errorf("kind %d, a body of %d: %v", kind, c.n, got)
			}
		}
		if !(frame.Frame{Kind: kind}).Right() {
			t.Errorf("kind %d, no body", kind)
		}
	}
}

// P3.1, P3.2: what Put writes and Get reads, byte for byte.
func TestKnown(t *testing.T) {
	for _, c := range known {
		got := frame.Put(nil, frame.Frame{Kind: c.kind, Body: []byte(c.body)})
		if string(got) != c.bytes {
			t.Errorf("%s: Put is %x", c.why, got)
		}
		taken(t, c.why, []byte(c.bytes), c.kind, []byte(c.body))
	}
	for _, none := range [][]byte{nil, {}} {
		if got := frame.Put(none, frame.Frame{Kind: 7, Body: none}); string(got) != known[0].bytes {
			t.Errorf("no bytes: %x", got)
		}
	}
}

// P3.1, P3.2: each kind, each length of a body, there and back.
func TestThereAndBack(t *testing.T) {
	for kind := range 256 {
		f := frame.Frame{Kind: byte(kind), Body: noise(kind % 7)}
		b := frame.Put(nil, f)
		if !bytes.Equal(b, written(f.Kind, f.Body)) {
			t.Errorf("kind %d: %x", kind, b)
		}
		taken(t, "each kind", b, f.Kind, f.Body)
	}
	for n := range api.MaxBody + 1 {
		f := frame.Frame{Kind: byte(n * 7), Body: noise(n)}
		b := frame.Put(nil, f)
		if !bytes.Equal(b, written(f.Kind, f.Body)) {
			t.Errorf("a body of %d: %x", n, b)
		}
		taken(t, "each length", b, f.Kind, f.Body)
	}
}

// P3.1: bytes ahead stay, and count for nothing in the frame's own; so frames stand one behind the other.
func TestPutBehind(t *testing.T) {
	for _, n := range []int{0, 1, 2, 3, 255, 5000} {
		ahead := noise(n)
		for _, c := range known {
			b := frame.Put(ahead, frame.Frame{Kind: c.kind, Body: []byte(c.body)})
			if string(b) != string(ahead)+c.bytes {
				t.Errorf("%s, %d bytes ahead: %x", c.why, n, b)
			}
		}
	}
	var all []byte
	for _, c := range known {
		all = frame.Put(all, frame.Frame{Kind: c.kind, Body: []byte(c.body)})
	}
	for _, c := range known {
		f, n, e := frame.Get(all)
		if e != api.OK || n != len(c.bytes) || f.Kind != c.kind || string(f.Body) != c.body {
			t.Fatalf("%s: %d %x, %d, %s", c.why, f.Kind, f.Body, n, e.Word())
		}
		all = all[n:]
	}
	if len(all) != 0 {
		t.Errorf("%d bytes are left", len(all))
	}
}

// P3.1: of a frame that isn't Right nothing is written.
func TestPutTooLong(t *testing.T) {
	for _, n := range []int{api.MaxBody + 1, 1<<16 - 2, 1<<16 - 1, 1 << 16, 1 << 20} {
		f := frame.Frame{Kind: 7, Body: noise(n)}
		for _, ahead := range [][]byte{nil, {}, {9}, noise(300)} {
			if got := frame.Put(ahead, f); !bytes.Equal(got, ahead) {
				t.Errorf("a body of %d behind %d bytes: %d bytes", n, len(ahead), len(got))
			}
		}
	}
}

// P3.2: fewer than two bytes, and two bytes alone: each number there is.
func TestGetNumber(t *testing.T) {
	refused(t, "nil", nil, api.ErrShort)
	refused(t, "no bytes", []byte{}, api.ErrShort)
	for c := range 256 {
		refused(t, "one byte", []byte{byte(c)}, api.ErrShort)
	}
	long := make([]byte, 1<<16+10)
	for n := range 1 << 16 {
		want := api.ErrShort
		if n == 0 || n > api.MaxBody+1 {
			want = api.ErrLong
		}
		refused(t, "two bytes alone", []byte{byte(n >> 8), byte(n)}, want)
		long[0], long[1] = byte(n>>8), byte(n)
		if want == api.ErrLong {
			refused(t, "bytes behind a number that isn't within its bounds", long, want)
		}
	}
}

// P3.2: the number is told ahead of the end and of the sum: the numbers at the bounds, all else being right.
func TestGetNumberAtBounds(t *testing.T) {
	most := noise(api.MaxBody)
	taken(t, "MaxBody", written(7, most), 7, most)
	over := written(7, noise(api.MaxBody+1))
	refused(t, "one more than MaxBody", over, api.ErrLong)
	refused(t, "one more, ahead of the end", over[:len(over)-1], api.ErrLong)
	over[len(over)-1] ^= 1
	refused(t, "one more, with a wrong sum", over, api.ErrLong)
	// 0xffff is the sum of nothing, so that only the number speaks against these.
	refused(t, "0, with the sum of nothing", []byte{0, 0, 0xff, 0xff}, api.ErrLong)
	refused(t, "0, and bytes behind", append([]byte{0, 0}, written(7, nil)...), api.ErrLong)
	taken(t, "1", written(7, nil), 7, nil)
}

// P3.2: bytes that end ahead of the frame's end, wherever that is; a wrong sum isn't told then.
func TestGetCut(t *testing.T) {
	for _, n := range []int{0, 1, 2, 254, 255, api.MaxBody} {
		b := written(7, noise(n))
		wrong := bytes.Clone(b)
		wrong[2] ^= 0xff
		for i := range b {
			refused(t, "cut", b[:i], api.ErrShort)
			refused(t, "cut, and turned", wrong[:i], api.ErrShort)
		}
		refused(t, "turned", wrong, api.ErrSum)
		// Of what is cut off nothing is read, though it is there in memory.
		refused(t, "cut just ahead of the end", b[:len(b)-1:len(b)], api.ErrShort)
	}
}

// P3.2: bytes behind the frame's end count for nothing.
func TestGetBehind(t *testing.T) {
	for _, n := range []int{0, 1, 254, 255, api.MaxBody} {
		body := noise(n)
		b := written(9, body)
		for _, behind := range [][]byte{{0}, {0xff}, {0, 0}, {0xff, 0xff}, written(8, []byte("next")), noise(3000)} {
			taken(t, "bytes behind", append(b[:len(b):len(b)], behind...), 9, body)
		}
	}
}

// P3.2: each sum but the right one.
func TestGetWrongSum(t *testing.T) {
	b := written(7, []byte("hi"))
	at := len(b) - 2
	right := int(b[at])<<8 | int(b[at+1])
	for s := range 1 << 16 {
		b[at], b[at+1] = byte(s>>8), byte(s)
		if s == right {
			taken(t, "the right sum", b, 7, []byte("hi"))
		} else {
			refused(t, "a wrong sum", b, api.ErrSum)
		}
	}
	b[at], b[at+1] = byte(right), byte(right>>8)
	refused(t, "the sum's lower byte first", b, api.ErrSum)
	refused(t, "a wrong sum, and bytes behind", append(b, 1, 2, 3), api.ErrSum)
	// The sum is that of the kind too, but not that of the number.
	bodyAlone := summed([]byte("hi"))
	refused(t, "the body's sum", []byte{0, 3, 7, 'h', 'i', byte(bodyAlone >> 8), byte(bodyAlone)}, api.ErrSum)
	all := summed([]byte("\x00\x03\x07hi"))
	refused(t, "the number's and the body's sum", []byte{0, 3, 7, 'h', 'i', byte(all >> 8), byte(all)}, api.ErrSum)
}

// P3.2: a byte turned, each in each way; behind the number it is always told by the sum.
func TestGetTurned(t *testing.T) {
	for _, n := range []int{0, 1, 2, 9, 260} {
		b := written(7, noise(n))
		for i := range b {
			for x := 1; x < 256; x++ {
				b[i] ^= byte(x)
				same(t, b)
				if i >= 2 {
					refused(t, "a byte turned", b, api.ErrSum)
				}
				b[i] ^= byte(x)
			}
		}
	}
	b := written(7, noise(api.MaxBody))
	for i := range b {
		b[i] ^= 0x40
		same(t, b)
		if i >= 2 {
			refused(t, "a byte turned of many", b, api.ErrSum)
		}
		b[i] ^= 0x40
	}
}

// P3.2: whatever the bytes.
func TestGetNoise(t *testing.T) {
	for n := range 3000 {
		b := noise(n)
		same(t, b)
		if n > 2 {
			b[0] %= 8
			same(t, b)
		}
	}
	// Small bytes make small numbers, so that many of these come as far as the sum.
	for bits := range 1 << 14 {
		b := make([]byte, 7)
		for i := range b {
			b[i] = byte(bits >> (2 * i) & 3)
		}
		same(t, b)
	}
}

// Rule 3: what is handed in is neither changed nor kept, and an answer is new memory.
func TestPutOwnMemory(t *testing.T) {
	room := []byte("abcdefghijklmnopqrstuvwxyz")
	body := []byte("hi")
	for _, f := range []frame.Frame{{Kind: 7, Body: body}, {Kind: 7, Body: noise(api.MaxBody + 1)}} {
		got := frame.Put(room[:3], f)
		was := string(got)
		if string(room) != "abcdefghijklmnopqrstuvwxyz" || string(body) != "hi" {
			t.Fatalf("handed in: %q, %q", room, body)
		}
		room[0], body[0] = 'X', 'X'
		if string(got) != was {
			t.Errorf("the answer has what was handed in: %q", got)
		}
		room[0], body[0] = 'a', 'h'
		clear(got)
		_ = append(got, "behind"...)
		if string(room) != "abcdefghijklmnopqrstuvwxyz" || string(body) != "hi" {
			t.Errorf("what was handed in has the answer: %q, %q", room, body)
		}
	}
	// Two answers behind the same bytes share none of them.
	one := frame.Put(room[:3], frame.Frame{Kind: 1})
	two := frame.Put(room[:3], frame.Frame{Kind: 2})
	if one[5] != 1 || two[5] != 2 {
		t.Errorf("%x, %x", one, two)
	}
}

func TestGetOwnMemory(t *testing.T) {
	b := append(written(7, []byte("hi")), "behind"...)
	was := string(b)
	one, _, _ := frame.Get(b)
	two, _, _ := frame.Get(b)
	if string(b) != was {
		t.Errorf("handed in: %q", b)
	}
	copy(one.Body, "YY")
	_ = append(one.Body, "ZZZZ"...)
	if string(b) != was || string(two.Body) != "hi" {
		t.Errorf("%q, %q", b, two.Body)
	}
	clear(b)
	if string(two.Body) != "hi" {
		t.Errorf("the answer has what was handed in: %q", two.Body)
	}
}
