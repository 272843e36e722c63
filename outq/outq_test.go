package outq_test

import (
	"bytes"
	"math"
	"testing"

	"kibitzer/api"
	"kibitzer/outq"
)

// noise is bytes without a plain pattern, always the same ones.
func noise(n int) []byte {
	b := make([]byte, n)
	x := uint32(n)
	for i := range b {
		x = x*1664525 + 1013904223
		b[i] = byte(x >> 24)
	}
	return b
}

// is holds a queue's Len and Room against what they must be.
func is(t *testing.T, why string, q *outq.Queue, size, waits int) {
	t.Helper()
	if q.Len() != waits || q.Room() != size-waits {
		t.Fatalf("%s: size %d: %d wait, room for %d; not %d, %d", why, size, q.Len(), q.Room(), waits, size-waits)
	}
}

// model is a queue in the document's words.
type model struct {
	size  int
	waits []byte
}

// put puts bytes into both a queue and a model, and holds them against each other.
func (m *model) put(t *testing.T, q *outq.Queue, b []byte) {
	t.Helper()
	was := bytes.Clone(b)
	fits := len(m.waits)+len(b) <= m.size
	if q.Put(b) != fits {
		t.Fatalf("size %d, %d wait: Put of %d bytes is %v", m.size, len(m.waits), len(b), !fits)
	}
	if !bytes.Equal(b, was) {
		t.Fatalf("Put has turned %x to %x", was, b)
	}
	if fits {
		m.waits = append(m.waits, b...)
	}
	is(t, "behind Put", q, m.size, len(m.waits))
}

// take takes so many out of both, and holds them against each other.
func (m *model) take(t *testing.T, q *outq.Queue, n int) {
	t.Helper()
	count := n
	if n < 0 {
		count = 0
	} else if n > len(m.waits) {
		count = len(m.waits)
	}
	got := q.Take(n)
	if !bytes.Equal(got, m.waits[:count]) {
		t.Fatalf("size %d: Take of %d is %x, not %x", m.size, n, got, m.waits[:count])
	}
	m.waits = m.waits[count:]
	is(t, "behind Take", q, m.size, len(m.waits))
}

// P5.1: the size, at its bounds; just so many bytes have room.
func TestSizes(t *testing.T) {
	for _, c := range []struct{ size, want int }{
		{math.MinInt, 0}, {-1 << 32, 0}, {-65536, 0}, {-2, 0}, {-1, 0}, {0, 0}, {1, 1}, {2, 2}, {80, 80}, {2053, 2053},
		{api.MaxCap - 1, 65535}, {api.MaxCap, 65536}, {api.MaxCap + 1, 65536}, {api.MaxCap * 2, 65536}, {1 << 32, 65536}, {1<<32 + 1, 65536}, {math.MaxInt, 65536},
	} {
		q, m := outq.New(c.size), &model{size: c.want}
		is(t, "new", q, c.want, 0)
		m.put(t, q, noise(c.want+1))
		m.put(t, q, noise(1<<20))
		m.put(t, q, noise(c.want))
		m.put(t, q, []byte{1})
		m.put(t, q, nil)
		m.take(t, q, math.MaxInt)
		m.put(t, q, noise(c.want+1))
		m.put(t, q, noise(c.want))
	}
}

// P5.1: a queue for nothing: only no bytes have room.
func TestNoSize(t *testing.T) {
	for _, size := range []int{-1, 0} {
		q, m := outq.New(size), &model{}
		m.put(t, q, nil)
		m.put(t, q, []byte{})
		m.put(t, q, []byte{0})
		for _, n := range []int{math.MinInt, -1, 0, 1, math.MaxInt} {
			m.take(t, q, n)
		}
	}
}

// P5.1: exactly as many bytes as there is room for, and one more, behind any number of bytes that wait.
func TestRoom(t *testing.T) {
	for _, size := range []int{0, 1, 2, 3, 17, 300} {
		for waits := 0; waits <= size; waits++ {
			q, m := outq.New(size), &model{size: size}
			m.put(t, q, noise(waits))
			m.put(t, q, noise(size-waits+1))
			m.put(t, q, noise(size-waits+2))
			m.put(t, q, noise(size+1))
			m.put(t, q, nil)
			m.put(t, q, noise(size-waits))
			m.put(t, q, []byte{9})
			m.take(t, q, size)
			m.take(t, q, 1)
		}
	}
}

// P5.1: what has no room isn't taken in part: what is handed over next stands just behind what waits.
func TestWhole(t *testing.T) {
	q := outq.New(4)
	for _, c := range []struct {
		put  string
		want bool
	}{{"abc", true}, {"de", false}, {"", true}, {"fghijk", false}, {"l", true}, {"m", false}, {"", true}} {
		if q.Put([]byte(c.put)) != c.want {
			t.Errorf("Put of %q isn't %v", c.put, c.want)
		}
	}
	if got := q.Take(2); string(got) != "ab" {
		t.Errorf("%q", got)
	}
	if q.Put([]byte("nop")) || !q.Put([]byte("qr")) {
		t.Error("room for two bytes")
	}
	if got := q.Take(9); string(got) != "clqr" {
		t.Errorf("%q", got)
	}
	is(t, "all is taken", q, 4, 0)
}

// P5.1: Take of each number, of each number of bytes that wait.
func TestTake(t *testing.T) {
	for _, size := range []int{0, 1, 5, 12} {
		for waits := 0; waits <= size; waits++ {
			for _, n := range []int{math.MinInt, math.MinInt32, -2, -1, 0, 1, 2, waits - 1, waits, waits + 1, size, size + 1, api.MaxCap + 1, math.MaxInt32, math.MaxInt - 1, math.MaxInt} {
				q, m := outq.New(size), &model{size: size}
				m.put(t, q, noise(waits))
				m.take(t, q, n)
				m.take(t, q, n)
				m.put(t, q, noise(3))
				m.take(t, q, size)
			}
		}
	}
}

// P5.1: bytes go through in their order, in whatever pieces they come and are taken.
func TestThrough(t *testing.T) {
	all := noise(500)
	for _, size := range []int{1, 2, 3, 7, 64} {
		for in := 1; in <= size; in++ {
			for out := 1; out <= size+1; out++ {
				q, m := outq.New(size), &model{size: size}
				var got []byte
				for rest := all; len(rest) > 0 || q.Len() > 0; {
					piece := rest[:min(in, len(rest))]
					if q.Room() >= len(piece) {
						rest = rest[len(piece):]
					}
					m.put(t, q, piece)
					b := q.Take(out)
					m.waits = m.waits[len(b):]
					got = append(got, b...)
				}
				if !bytes.Equal(got, all) {
					t.Fatalf("size %d, %d in, %d out: %x", size, in, out, got)
				}
			}
		}
	}
}

// P5.1: Put and Take by turns, of many lengths, those that have no room among them.
func TestTurns(t *testing.T) {
	for _, size := range []int{0, 1, 2, 5, 16, 100, 4000, api.MaxCap} {
		q, m := outq.New(size), &model{size: size}
		x := uint32(size)
		next := func(n int) int {
			x = x*1664525 + 1013904223
			return int(x>>8) % n
		}
		for range 1500 {
			if next(5) < 3 {
				m.put(t, q, noise(next(size/2+3)))
			} else {
				m.take(t, q, next(size/2+4)-1)
			}
		}
		m.take(t, q, size)
	}
}

// P5.1: a full queue, a byte out and a byte in, over and over.
func TestFull(t *testing.T) {
	q, m := outq.New(api.MaxCap), &model{size: api.MaxCap}
	m.put(t, q, noise(api.MaxCap))
	for i := range 3 * api.MaxCap {
		m.put(t, q, []byte{1})
		m.take(t, q, 1)
		m.put(t, q, []byte{byte(i), 2})
		m.put(t, q, []byte{byte(i)})
	}
	m.take(t, q, api.MaxCap)
}

// Rule 3: what is handed in isn't kept, nor is what stands behind it.
func TestHandedIn(t *testing.T) {
	room := []byte("abcdefgh")
	q := outq.New(8)
	for range 2 {
		q.Put(room[:3])
	}
	if string(room) != "abcdefgh" {
		t.Errorf("handed in: %q", room)
	}
	clear(room)
	if got := q.Take(8); string(got) != "abcabc" {
		t.Errorf("the queue has what was handed in: %q", got)
	}
	if string(room) != "\x00\x00\x00\x00\x00\x00\x00\x00" {
		t.Errorf("handed in: %q", room)
	}
}

// Rule 3: an answer is new memory, which the queue neither reads nor writes any more.
func TestTakenMemory(t *testing.T) {
	q := outq.New(8)
	q.Put([]byte("abcdefgh"))
	one := q.Take(2)
	_ = append(one, "XXXX"...)
	two := q.Take(2)
	if string(two) != "cd" {
		t.Errorf("who writes behind an answer writes into the queue: %q", two)
	}
	clear(one)
	q.Put([]byte("ijkl"))
	if string(two) != "cd" || string(one) != "\x00\x00" {
		t.Errorf("the queue writes into an answer: %q, %q", one, two)
	}
	none := q.Take(0)
	_ = append(none, "YY"...)
	all := q.Take(9)
	if string(all) != "efghijkl" {
		t.Errorf("%q", all)
	}
	q.Put([]byte("mnopqrst"))
	if string(all) != "efghijkl" {
		t.Errorf("the queue writes into an answer: %q", all)
	}
	_ = append(all[:0], "ZZZZZZZZ"...)
	if got := q.Take(8); string(got) != "mnopqrst" {
		t.Errorf("who writes into an answer writes into the queue: %q", got)
	}
}

// Rule 1: one that New didn't make panics at nothing, and is like one for no bytes.
func TestNotNew(t *testing.T) {
	var q outq.Queue
	m := &model{}
	is(t, "not new", &q, 0, 0)
	m.put(t, &q, []byte{1})
	m.put(t, &q, nil)
	m.take(t, &q, 1)
}

// Rule 4: queues are their own.
func TestTwoQueues(t *testing.T) {
	p, q := outq.New(3), outq.New(5)
	p.Put([]byte("abc"))
	is(t, "the other", q, 5, 0)
	q.Put([]byte("de"))
	is(t, "one", p, 3, 3)
	if one, two := p.Take(5), q.Take(5); string(one) != "abc" || string(two) != "de" {
		t.Errorf("%q, %q", one, two)
	}
	is(t, "one that is made later", outq.New(3), 3, 0)
}
