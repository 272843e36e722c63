package feed_test

import (
	"bytes"
	"testing"

	"kibitzer/api"
	"kibitzer/feed"
	"kibitzer/frame"
)

// noise is bytes without a plain pattern, always the same ones.
func noise(n int) []byte {
	b := make([]byte, n)
	x := uint32(n)
	for i := range b {
		x = x*1664525 + 1013904223
		b[i] = byte(x >> 24)
	}
	return b
}

// bodied is a frame with a body of so many bytes.
func bodied(kind byte, n int) frame.Frame { return frame.Frame{Kind: kind, Body: noise(n)} }

// written is the frames' bytes, one behind the other.
func written(list ...frame.Frame) []byte {
	var b []byte
	for _, f := range list {
		b = frame.Put(b, f)
	}
	return b
}

// joined is bytes behind bytes, in memory of their own.
func joined(pieces ...[]byte) []byte { return bytes.Join(pieces, nil) }

// short is frames of few bytes, long such as have lengths at the bounds.
func short() []frame.Frame {
	return []frame.Frame{bodied(7, 0), bodied(0, 1), bodied(255, 3), bodied(0, 0), bodied(1, 0)}
}

func long() []frame.Frame {
	return []frame.Frame{bodied(1, api.MaxBody), bodied(2, 0), bodied(3, 255), bodied(4, api.MaxBody-1), bodied(5, 254), bodied(6, 256), bodied(7, 1)}
}

// broken is bytes that are no frame, by the error that tells so; each is told at its last byte, and not ahead of it.
func broken() []struct {
	why   string
	bytes []byte
	err   api.Errno
} {
	turned := func(n int) []byte {
		b := written(bodied(9, n))
		b[len(b)-1] ^= 1
		return b
	}
	return []struct {
		why   string
		bytes []byte
		err   api.Errno
	}{
		{"the number 0", []byte{0, 0}, api.ErrLong},
		{"a number of one too many", []byte{(api.MaxBody + 2) >> 8, (api.MaxBody + 2) & 0xff}, api.ErrLong},
		{"the highest number", []byte{0xff, 0xff}, api.ErrLong},
		{"a wrong sum, no body", turned(0), api.ErrSum},
		{"a wrong sum", turned(2), api.ErrSum},
		{"a wrong sum, MaxBody", turned(api.MaxBody), api.ErrSum},
	}
}

// same holds two lists of frames against each other.
func same(got, want []frame.Frame) bool {
	if len(got) != len(want) {
		return false
	}
	for i, f := range got {
		if f.Kind != want[i].Kind || !bytes.Equal(f.Body, want[i].Body) {
			return false
		}
	}
	return true
}

// is holds a feed's Len and Err against what they must be.
func is(t *testing.T, why string, f *feed.Feed, left int, err api.Errno) {
	t.Helper()
	if f.Len() != left || f.Err() != err {
		t.Errorf("%s: %d left, %s; not %d, %s", why, f.Len(), f.Err().Word(), left, err.Word())
	}
}

// pushed pushes bytes, and holds what comes of it against what must.
func pushed(t *testing.T, why string, f *feed.Feed, b []byte, want []frame.Frame, left int, err api.Errno) {
	t.Helper()
	if got := f.Push(b); !same(got, want) {
		t.Errorf("%s: told are %x, not %x", why, got, want)
	}
	is(t, why, f, left, err)
}

// told is what must have been told of all bytes that came, how many are left, and by what it is broken.
func told(all []byte) ([]frame.Frame, int, api.Errno) {
	var list []frame.Frame
	for {
		f, n, err := frame.Get(all)
		switch err {
		case api.OK:
			list, all = append(list, f), all[n:]
		case api.ErrShort:
			return list, len(all), api.OK
		default:
			return list, 0, err
		}
	}
}

// follow pushes bytes in pieces that end at the given places, and holds a feed against all that came, behind each piece.
func follow(t *testing.T, all []byte, ends []int) {
	t.Helper()
	f := feed.New()
	var got []frame.Frame
	at := 0
	for _, end := range append(ends, len(all)) {
		got = append(got, f.Push(all[at:end])...)
		at = end
		want, left, err := told(all[:end])
		if !same(got, want) || f.Len() != left || f.Err() != err {
			t.Fatalf("%x in pieces to %v, behind %d: %d frames, %d left, %s; not %d, %d, %s",
				all, ends, end, len(got), f.Len(), f.Err().Word(), len(want), left, err.Word())
		}
	}
}

// steps is the ends of pieces of one length.
func steps(all, piece int) []int {
	var ends []int
	for at := piece; at < all; at += piece {
		ends = append(ends, at)
	}
	return ends
}

// P4.1: nothing came, and no bytes are nothing, whenever they come.
func TestNothing(t *testing.T) {
	f := feed.New()
	is(t, "new", f, 0, api.OK)
	for _, none := range [][]byte{nil, {}} {
		pushed(t, "no bytes, at first", f, none, nil, 0, api.OK)
	}
	one := bodied(7, 2)
	b := written(one)
	for i := range b[1:] {
		pushed(t, "a byte", f, b[i:i+1], nil, i+1, api.OK)
		pushed(t, "no bytes, within a frame", f, nil, nil, i+1, api.OK)
		pushed(t, "no bytes, within a frame", f, []byte{}, nil, i+1, api.OK)
	}
	pushed(t, "the last byte", f, b[len(b)-1:], []frame.Frame{one}, 0, api.OK)
	pushed(t, "no bytes, behind a frame", f, nil, nil, 0, api.OK)
	pushed(t, "a number that isn't one", f, []byte{0, 0}, nil, 0, api.ErrLong)
	pushed(t, "no bytes, behind an error", f, nil, nil, 0, api.ErrLong)
}

// P4.1: of bytes one by one the last of each frame tells it.
func TestByteByByte(t *testing.T) {
	f := feed.New()
	for _, one := range append(short(), long()...) {
		b := written(one)
		last := len(b) - 1
		for i := range last {
			pushed(t, "a byte within", f, b[i:i+1], nil, i+1, api.OK)
		}
		pushed(t, "the last byte", f, b[last:], []frame.Frame{one}, 0, api.OK)
	}
}

// P4.1: all frames of one piece are told, in order, with nothing left.
func TestSeveral(t *testing.T) {
	for _, list := range [][]frame.Frame{short()[:1], short()[:2], short(), long(), append(short(), long()...), append(long(), short()...)} {
		f := feed.New()
		for range 3 {
			pushed(t, "several", f, written(list...), list, 0, api.OK)
		}
	}
	// The same frame twice is told twice.
	twice := []frame.Frame{bodied(7, 1), bodied(7, 1)}
	pushed(t, "the same frame", feed.New(), written(twice...), twice, 0, api.OK)
	var many []frame.Frame
	for i := range 1000 {
		many = append(many, bodied(byte(i), i%300))
	}
	pushed(t, "very many", feed.New(), written(many...), many, 0, api.OK)
}

// P4.1: a piece that ends within a frame, wherever: what is left is what stands behind the last whole frame.
func TestWithin(t *testing.T) {
	for _, ahead := range [][]frame.Frame{nil, short()[:1], short()} {
		for _, last := range []frame.Frame{bodied(7, 0), bodied(8, 1), bodied(9, 255), bodied(10, api.MaxBody)} {
			b := written(last)
			for i := range b {
				f := feed.New()
				pushed(t, "cut", f, joined(written(ahead...), b[:i]), ahead, i, api.OK)
				pushed(t, "the rest", f, joined(b[i:], b), []frame.Frame{last, last}, 0, api.OK)
			}
		}
	}
}

// P4.1: each error but ErrShort breaks it, behind whatever frames; those are told, and what comes behind them isn't.
func TestBroken(t *testing.T) {
	for _, c := range broken() {
		for _, ahead := range [][]frame.Frame{nil, short()[:1], short(), long()} {
			for _, behind := range [][]byte{nil, {0}, {1, 2, 3}, {0, 0}, {0xff, 0xff}, written(short()...)} {
				f := feed.New()
				pushed(t, c.why, f, joined(written(ahead...), c.bytes, behind), ahead, 0, c.err)
				stays(t, c.why, f, c.err)
			}
		}
	}
}

// stays holds that a broken feed tells nothing any more, takes nothing in, and stays broken by the same error.
func stays(t *testing.T, why string, f *feed.Feed, err api.Errno) {
	t.Helper()
	for _, more := range [][]byte{nil, {}, {0}, {0, 0}, {0xff, 0xff}, {5}, written(short()[0]), written(long()...), noise(100)} {
		pushed(t, why+", more behind", f, more, nil, 0, err)
	}
	for _, c := range broken() {
		pushed(t, why+", "+c.why+" behind", f, c.bytes, nil, 0, err)
	}
}

// P4.1: it is broken by the byte that shows it, not by one ahead of that.
func TestBrokenByteByByte(t *testing.T) {
	for _, c := range broken() {
		f := feed.New()
		pushed(t, c.why, f, written(short()...), short(), 0, api.OK)
		last := len(c.bytes) - 1
		for i := range last {
			pushed(t, c.why+", within", f, c.bytes[i:i+1], nil, i+1, api.OK)
		}
		pushed(t, c.why+", the last byte", f, c.bytes[last:], nil, 0, c.err)
		stays(t, c.why, f, c.err)
	}
}

// P4.1: each number ahead of a kind: those within the bounds wait for more bytes, the others don't.
func TestNumbers(t *testing.T) {
	for n := range 1 << 16 {
		f := feed.New()
		pushed(t, "one byte of a number", f, []byte{byte(n >> 8)}, nil, 1, api.OK)
		if n == 0 || n > api.MaxBody+1 {
			pushed(t, "a number out of bounds", f, []byte{byte(n)}, nil, 0, api.ErrLong)
		} else {
			pushed(t, "a number within bounds", f, []byte{byte(n)}, nil, 2, api.OK)
		}
	}
}

// P4.2: few bytes, in each way to cut them into pieces.
func TestAllPieces(t *testing.T) {
	whole := written(bodied(7, 0), bodied(8, 1), bodied(0, 0))[:14]
	for _, all := range [][]byte{
		whole,
		joined(written(bodied(7, 0)), []byte{0, 0}, written(bodied(8, 0))),
		joined(written(bodied(7, 0)), []byte{0, 1, 3, 4, 5}, []byte{0xff, 0xff}),
		{8, 2, 0, 1, 0, 0xe1, 0xf0},
	} {
		for cuts := range 1 << (len(all) - 1) {
			var ends []int
			for i := 1; i < len(all); i++ {
				if cuts>>(i-1)&1 == 1 {
					ends = append(ends, i)
				}
			}
			follow(t, all, ends)
		}
	}
}

// P4.2: many bytes, in pieces of one length, and in two and three of any.
func TestPieces(t *testing.T) {
	all := joined(written(short()...), written(bodied(1, 255), bodied(2, 256)), written(short()...))
	wrong := bytes.Clone(all)
	wrong[300] ^= 0x10
	for _, b := range [][]byte{all, all[:len(all)-1], wrong} {
		for n := 1; n <= len(b); n++ {
			follow(t, b, steps(len(b), n))
			follow(t, b, []int{n})
		}
		for i := 0; i <= 70; i++ {
			for j := i; j <= 70; j++ {
				follow(t, b[:70], []int{i, j})
			}
		}
	}
	many := written(append(long(), long()...)...)
	for _, n := range []int{7, 255, 2052, 2053, 2054, 4106, 5000} {
		follow(t, many, steps(len(many), n))
	}
}

// P4.2: frames and bytes that are none by turns, in pieces of many lengths.
func TestNoise(t *testing.T) {
	for seed := range 2000 {
		from := noise(seed + 60)
		var all []byte
		for i, c := range from[:12] {
			b := written(frame.Frame{Kind: c, Body: noise(int(c) % 40)})
			if from[i+12]%16 == 0 {
				b[int(from[i+24])%len(b)] ^= 1 << (c % 8)
			}
			all = append(all, b...)
		}
		var ends []int
		for i, at := 36, 0; ; i = (i + 1) % 60 {
			if at += int(from[i]) % 50; at >= len(all) {
				break
			}
			ends = append(ends, at)
		}
		follow(t, all, ends)
		// Bytes at random alone: nearly all break it early.
		from[0] %= 4
		follow(t, from, steps(len(from), 1+seed%7))
	}
}

// Rule 3: what is handed in is neither changed nor kept.
func TestHandedIn(t *testing.T) {
	one, two := bodied(7, 4), bodied(8, 5)
	b := written(one, two)
	cut := len(written(one)) + 4
	room := joined(b, []byte("behind"))
	was := bytes.Clone(room)
	f := feed.New()
	first := f.Push(room[:cut])
	if !bytes.Equal(room, was) {
		t.Errorf("handed in: %x", room)
	}
	clear(room)
	if !same(first, []frame.Frame{one}) {
		t.Errorf("what was told has what was handed in: %x", first)
	}
	pushed(t, "behind memory that was turned", f, b[cut:], []frame.Frame{two}, 0, api.OK)
	// Within a frame from the first byte on, in pieces whose memory is the same.
	piece := make([]byte, 1, 9)
	g := feed.New()
	for i, c := range b {
		piece[0] = c
		want := []frame.Frame(nil)
		switch i {
		case len(written(one)) - 1:
			want = []frame.Frame{one}
		case len(b) - 1:
			want = []frame.Frame{two}
		}
		if got := g.Push(piece); !same(got, want) {
			t.Errorf("byte %d: %x", i, got)
		}
		clear(piece[:9])
	}
}

// Rule 3: an answer is new memory, which the feed neither reads nor writes any more.
func TestToldMemory(t *testing.T) {
	list := []frame.Frame{bodied(7, 4), bodied(8, 5), bodied(9, 6)}
	b := written(list...)
	f := feed.New()
	first := f.Push(b[:len(b)-1])
	for i := range first {
		clear(first[i].Body)
		_ = append(first[i].Body, noise(50)...)
		if i == 0 && !same(first[1:], list[1:2]) {
			t.Errorf("two bodies share memory: %x", first)
		}
	}
	clear(first)
	_ = append(first, bodied(1, 1), bodied(2, 2))
	second := f.Push(joined(b[len(b)-1:], b))
	if want := append(list[2:3:3], list...); !same(second, want) {
		t.Errorf("behind memory that was turned: %x", second)
	}
	pushed(t, "more", f, joined(b, b), append(list[:3:3], list...), 0, api.OK)
	if want := append(list[2:3:3], list...); !same(second, want) {
		t.Errorf("what was told is turned: %x", second)
	}
}

// Rule 1: one that New didn't make panics at nothing, and is like one to which nothing came.
func TestNotNew(t *testing.T) {
	var f feed.Feed
	is(t, "not new", &f, 0, api.OK)
	pushed(t, "no bytes", &f, nil, nil, 0, api.OK)
	pushed(t, "frames", &f, written(short()...), short(), 0, api.OK)
}

// Rule 4: feeds are their own.
func TestTwoFeeds(t *testing.T) {
	one, two := bodied(7, 4), bodied(8, 7)
	b, c := written(one), written(two)
	f, g, h := feed.New(), feed.New(), feed.New()
	for i := range b[1:] {
		pushed(t, "one", f, b[i:i+1], nil, i+1, api.OK)
		pushed(t, "the other", g, c[i:i+1], nil, i+1, api.OK)
	}
	pushed(t, "a broken one", h, []byte{0, 0}, nil, 0, api.ErrLong)
	pushed(t, "one, whole", f, b[len(b)-1:], []frame.Frame{one}, 0, api.OK)
	pushed(t, "the other, whole", g, c[len(b)-1:], []frame.Frame{two}, 0, api.OK)
	is(t, "one that is made later", feed.New(), 0, api.OK)
}
