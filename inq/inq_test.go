package inq_test

import (
	"bytes"
	"fmt"
	"math"
	"slices"
	"testing"

	"kibitzer/api"
	"kibitzer/floor"
	"kibitzer/inq"
)

// The reasons as numbers, so that the constants are tested too.
const fine, ended, nobody, watches, noFloor, full = inq.Reason(0), inq.Reason(1), inq.Reason(2), inq.Reason(3), inq.Reason(4), inq.Reason(5)

// Those who are there by seats, as what they are.
const holds, waits, writes, owns, observes, isGone = 1, 2, 3, 4, 5, 6

// seats is a table where each kind of user is there, and one was.
func seats(t *testing.T) *floor.Table {
	t.Helper()
	f := floor.New(9)
	for id, r := range map[int]floor.Role{holds: floor.Writer, waits: floor.Writer, writes: floor.Writer, owns: floor.Owner, observes: floor.Observer, isGone: floor.Writer} {
		f.Join(id, r)
	}
	f.Leave(isGone)
	if f.Ask(holds) != api.OK || f.Ask(waits) != api.OK || f.Holder() != holds {
		t.Fatal("the table isn't as it must be")
	}
	return f
}

// stateOf is all that a table tells.
func stateOf(f *floor.Table) string {
	s := fmt.Sprint(f.Holder(), f.Left(), f.Queue())
	for _, id := range f.Users() {
		r, _ := f.Role(id)
		s += fmt.Sprint(" ", id, ":", r)
	}
	return s
}

// noise is bytes without a plain pattern, always the same ones.
func noise(n int) []byte {
	b := make([]byte, n)
	x := uint32(n)
	for i := range b {
		x = x*1664525 + 1013904223
		b[i] = byte(x >> 24)
	}
	return b
}

// is holds a queue's Len and Total against what they must be.
func is(t *testing.T, why string, q *inq.Queue, waiting int, total int64) {
	t.Helper()
	if q.Len() != waiting || q.Total() != total {
		t.Fatalf("%s: %d wait, %d in all; not %d, %d", why, q.Len(), q.Total(), waiting, total)
	}
}

// offers holds an Offer against the reason that it must tell.
func offers(t *testing.T, why string, q *inq.Queue, f *floor.Table, id int, keys string, want inq.Reason) {
	t.Helper()
	if got := q.Offer(f, id, []byte(keys)); got != want {
		t.Fatalf("%s: Offer of %q by %d tells %d, not %d", why, keys, id, got, want)
	}
}

// P11.1: the reasons' numbers.
func TestReasons(t *testing.T) {
	for i, r := range []inq.Reason{inq.Fine, inq.Ended, inq.Nobody, inq.Watches, inq.NoFloor, inq.Full} {
		if int(r) != i {
			t.Errorf("the reason in place %d is %d", i, int(r))
		}
	}
}

// P11.1: the document's example, and what is told of it.
func TestExample(t *testing.T) {
	f, q := seats(t), inq.New(4)
	is(t, "new", q, 0, 0)
	offers(t, "room for 4", q, f, holds, "abc", fine)
	is(t, "behind abc", q, 3, 3)
	offers(t, "room for 1", q, f, holds, "de", full)
	is(t, "behind de", q, 3, 3)
	if got := q.Take(9); string(got) != "abc" {
		t.Errorf("%q", got)
	}
}

// P11.1: each Reason, and which comes first where several hold.
func TestFirst(t *testing.T) {
	for _, c := range []struct {
		why string
		id  int
		// What is told, if nothing else holds: of keys that have room.
		want inq.Reason
	}{
		{"holds the floor", holds, fine},
		{"waits for the floor", waits, noFloor},
		{"is a Writer alone", writes, noFloor},
		{"is an Owner alone", owns, noFloor},
		{"is an Observer", observes, watches},
		{"is gone", isGone, nobody},
		{"never was there", 7, nobody},
		{"has the number of nobody", 0, nobody},
		{"has a number below 0", -1, nobody},
		{"has the holder's number below 0", -holds, nobody},
		{"has the lowest number", math.MinInt, nobody},
		{"has the highest number", math.MaxInt, nobody},
		{"has the holder's number, and 2^32", holds + 1<<32, nobody},
	} {
		for _, size := range []int{0, 1, 3} {
			for _, n := range []int{0, 1, 3, 4, 300} {
				f, q, keys := seats(t), inq.New(size), string(noise(n))
				want := c.want
				if want == fine && n > size {
					want = full
				}
				was := stateOf(f)
				offers(t, c.why, q, f, c.id, keys, want)
				if want == fine {
					is(t, c.why, q, n, int64(n))
				} else {
					is(t, c.why, q, 0, 0)
				}
				total := q.Total()
				q.End()
				offers(t, c.why+", behind End", q, f, c.id, keys, ended)
				is(t, c.why+", behind End", q, 0, total)
				if s := stateOf(f); s != was {
					t.Fatalf("%s: Offer has turned the table from %s to %s", c.why, was, s)
				}
			}
		}
	}
}

// P11.1: who may, by what is so in the table just then.
func TestTurns(t *testing.T) {
	f, q := floor.New(2), inq.New(100)
	offers(t, "nobody is there", q, f, 1, "a", nobody)
	offers(t, "nobody is there, nor holds the floor", q, f, 0, "a", nobody)
	f.Join(1, floor.Observer)
	offers(t, "an Observer", q, f, 1, "b", watches)
	f.SetRole(1, floor.Writer)
	offers(t, "a Writer, nobody holds the floor", q, f, 1, "c", noFloor)
	offers(t, "nobody, who holds the floor", q, f, 0, "c", nobody)
	f.Ask(1)
	offers(t, "behind Ask", q, f, 1, "D", fine)
	f.Join(2, floor.Owner)
	f.Ask(2)
	offers(t, "who waits", q, f, 2, "e", noFloor)
	f.Tick()
	offers(t, "a tick is left", q, f, 1, "F", fine)
	f.Tick()
	offers(t, "the lease is over", q, f, 1, "g", noFloor)
	offers(t, "who waited", q, f, 2, "H", fine)
	f.Give(1)
	offers(t, "given", q, f, 1, "I", fine)
	offers(t, "given to another", q, f, 2, "j", noFloor)
	f.SetRole(1, floor.Observer)
	offers(t, "an Observer now", q, f, 1, "k", watches)
	f.Ask(2)
	offers(t, "asked anew", q, f, 2, "L", fine)
	f.Leave(2)
	offers(t, "gone", q, f, 2, "m", nobody)
	f.Join(2, floor.Owner)
	offers(t, "there anew", q, f, 2, "n", noFloor)
	if got := q.Take(100); string(got) != "DFHIL" {
		t.Errorf("%q", got)
	}
	is(t, "all is taken", q, 0, 5)
}

// P11.1: the size, at its bounds; keys that just fit, and one byte more.
func TestSizes(t *testing.T) {
	f := seats(t)
	for _, c := range []struct{ size, want int }{
		{math.MinInt, 0}, {-1 << 32, 0}, {-65536, 0}, {-2, 0}, {-1, 0}, {0, 0}, {1, 1}, {2, 2}, {3, 3}, {256, 256}, {2043, 2043},
		{api.MaxCap - 1, 65535}, {api.MaxCap, 65536}, {api.MaxCap + 1, 65536}, {api.MaxCap * 2, 65536}, {1 << 32, 65536}, {1<<32 + 1, 65536}, {math.MaxInt, 65536},
	} {
		q, why := inq.New(c.size), fmt.Sprint("size ", c.size)
		all := string(noise(c.want + 1))
		offers(t, why, q, f, holds, all, full)
		is(t, why, q, 0, 0)
		offers(t, why, q, f, holds, all[:c.want], fine)
		is(t, why, q, c.want, int64(c.want))
		offers(t, why+", no room", q, f, holds, "x", full)
		offers(t, why+", no room, no bytes", q, f, holds, "", fine)
		if got := q.Take(math.MaxInt); string(got) != all[:c.want] {
			t.Fatalf("%s: %d bytes of %d", why, len(got), c.want)
		}
		offers(t, why+", taken", q, f, holds, all, full)
		offers(t, why+", taken", q, f, holds, all[1:], fine)
		is(t, why+", twice", q, c.want, 2*int64(c.want))
	}
}

// P11.1: keys that just fit, and one byte more, behind any number of bytes that wait.
func TestRoom(t *testing.T) {
	f := seats(t)
	for size := range 20 {
		for waiting := 0; waiting <= size; waiting++ {
			q, why := inq.New(size), fmt.Sprintf("size %d, %d wait", size, waiting)
			one, other := string(noise(waiting)), string(noise(size + 1)[:size-waiting])
			offers(t, why, q, f, holds, one, fine)
			offers(t, why, q, f, holds, other+"x", full)
			offers(t, why, q, f, holds, other+"xy", full)
			is(t, why, q, waiting, int64(waiting))
			offers(t, why, q, f, holds, other, fine)
			is(t, why, q, size, int64(size))
			if got := q.Take(size); string(got) != one+other {
				t.Fatalf("%s: %q, not %q", why, got, one+other)
			}
		}
	}
}

// P11.1: keys of no bytes: fine just of whom any others would be, wherever there is room for nothing else.
func TestNoKeys(t *testing.T) {
	f := seats(t)
	for _, size := range []int{-1, 0, 2} {
		q := inq.New(size)
		offers(t, "full", q, f, holds, "ab"[:max(size, 0)], fine)
		for _, keys := range [][]byte{nil, {}} {
			for id, want := range map[int]inq.Reason{holds: fine, waits: noFloor, writes: noFloor, owns: noFloor, observes: watches, isGone: nobody, 0: nobody} {
				if got := q.Offer(f, id, keys); got != want {
					t.Errorf("size %d: no bytes of %d: %d, not %d", size, id, got, want)
				}
			}
		}
		is(t, "no bytes", q, max(size, 0), int64(max(size, 0)))
		q.End()
		if got := q.Offer(f, holds, nil); got != ended {
			t.Errorf("size %d: no bytes behind End: %d", size, got)
		}
	}
}

// P11.1: Take of less than waits, of all, of more, and of numbers below 1.
func TestTake(t *testing.T) {
	f := seats(t)
	for waiting := range 8 {
		for _, n := range []int{math.MinInt, -1 << 32, -2, -1, 0, 1, 2, waiting - 1, waiting, waiting + 1, 7, 8, api.MaxCap + 1, 1 << 32, math.MaxInt} {
			q, all := inq.New(7), "abcdefg"[:waiting]
			offers(t, "empty", q, f, holds, all, fine)
			count := min(max(n, 0), waiting)
			if got := q.Take(n); string(got) != all[:count] {
				t.Fatalf("%d wait: Take of %d is %q", waiting, n, got)
			}
			is(t, "behind Take", q, waiting-count, int64(waiting))
			offers(t, "room for what went", q, f, holds, "ABCDEFGH"[:7-waiting+count], fine)
			offers(t, "full", q, f, holds, "x", full)
			is(t, "full", q, 7, int64(7+count))
			if got := q.Take(99); string(got) != all[count:]+"ABCDEFGH"[:7-waiting+count] {
				t.Fatalf("%d wait, behind Take of %d: %q", waiting, n, got)
			}
		}
	}
}

// P11.1: Total goes on behind Take, and by what Offer takes alone.
func TestTotal(t *testing.T) {
	f, q := seats(t), inq.New(api.MaxCap)
	keys := string(noise(api.MaxCap))
	for n := range int64(200) {
		offers(t, "empty", q, f, holds, keys, fine)
		offers(t, "full", q, f, holds, keys, full)
		offers(t, "another", q, f, waits, "x", noFloor)
		is(t, "full", q, api.MaxCap, (n+1)*api.MaxCap)
		q.Take(-1)
		q.Take(5)
		is(t, "behind Take", q, api.MaxCap-5, (n+1)*api.MaxCap)
		q.Take(api.MaxCap)
		is(t, "empty", q, 0, (n+1)*api.MaxCap)
	}
	q.End()
	is(t, "behind End", q, 0, 200*api.MaxCap)
}

// P11.1: End, of a queue of any number of bytes, and whatever is called behind it.
func TestEnd(t *testing.T) {
	for waiting := range 5 {
		f, q := seats(t), inq.New(4)
		offers(t, "empty", q, f, holds, "abcd"[:waiting], fine)
		for range 3 {
			q.End()
			is(t, "behind End", q, 0, int64(waiting))
			for _, n := range []int{math.MinInt, -1, 0, 1, 4, math.MaxInt} {
				if got := q.Take(n); len(got) != 0 {
					t.Fatalf("Take of %d behind End is %q", n, got)
				}
			}
			for _, id := range []int{holds, waits, writes, owns, observes, isGone, 0, -1, math.MaxInt} {
				for _, keys := range []string{"", "x", "abcd", "abcde"} {
					offers(t, "behind End", q, f, id, keys, ended)
				}
			}
			is(t, "behind End, and Offers", q, 0, int64(waiting))
		}
	}
}

// model is a queue in the document's words: who holds the floor, and who is there, it is told.
type model struct {
	size    int
	waiting []byte
	total   int64
	ended   bool
}

func (m *model) offer(f *floor.Table, id int, keys []byte) inq.Reason {
	r, _ := f.Role(id)
	list := []struct {
		holds bool
		why   inq.Reason
	}{
		{m.ended, ended}, {!slices.Contains(f.Users(), id), nobody}, {r == floor.Observer, watches},
		{f.Holder() != id, noFloor}, {len(m.waiting)+len(keys) > m.size, full},
	}
	for _, c := range list {
		if c.holds {
			return c.why
		}
	}
	m.waiting = slices.Concat(m.waiting, keys)
	m.total += int64(len(keys))
	return fine
}

func (m *model) take(n int) []byte {
	count := 0
	for count < n && count < len(m.waiting) {
		count++
	}
	b := m.waiting[:count]
	m.waiting = m.waiting[count:]
	return b
}

// P11.1: all calls by turns, of a queue, a model of it, and a table whose floor passes meanwhile.
func TestModel(t *testing.T) {
	for _, size := range []int{-3, 0, 1, 2, 5, 16, 100, 4000} {
		f, q, m := floor.New(3), inq.New(size), &model{size: max(size, 0)}
		x, seen := uint32(size), map[inq.Reason]bool{}
		next := func(n int) int {
			x = x*1664525 + 1013904223
			return int(x>>8) % n
		}
		for n := range 6000 {
			id := next(7)
			switch next(12) {
			case 0:
				f.Join(id, floor.Role(next(3)))
			case 1:
				f.SetRole(id, floor.Role(next(3)))
			case 2:
				f.Give(id)
			case 3:
				f.Tick()
			case 4:
				f.Ask(id)
				if next(4) == 0 {
					f.Leave(id)
				}
			case 5, 6:
				count := next(size/2+5) - 2
				if got, want := q.Take(count), m.take(count); !bytes.Equal(got, want) {
					t.Fatalf("size %d: Take of %d is %q, not %q", size, count, got, want)
				}
			default:
				if next(2) == 0 {
					id = f.Holder()
				}
				keys := noise(next(max(size, 0)/2 + 3))
				was := bytes.Clone(keys)
				got, want := q.Offer(f, id, keys), m.offer(f, id, keys)
				if got != want || !bytes.Equal(keys, was) {
					t.Fatalf("size %d: Offer of %d bytes by %d tells %d, not %d", size, len(keys), id, got, want)
				}
				seen[got] = true
			}
			if n == 5800 {
				q.End()
				m.ended, m.waiting = true, nil
			}
			is(t, fmt.Sprintf("size %d, call %d", size, n), q, len(m.waiting), m.total)
		}
		if len(seen) != 6 {
			t.Errorf("size %d: reasons told are %v", size, seen)
		}
	}
}

// Rule 3: what is handed in is neither changed nor kept; what is told is new memory.
func TestMemory(t *testing.T) {
	f, q := seats(t), inq.New(6)
	keys := []byte("abcdef")
	for _, want := range []inq.Reason{fine, fine, full} {
		if got := q.Offer(f, holds, keys[:3]); got != want {
			t.Fatal(got)
		}
	}
	if string(keys) != "abcdef" {
		t.Errorf("handed in: %q", keys)
	}
	clear(keys)
	one := q.Take(2)
	_ = append(one, "XXXX"...)
	two := q.Take(2)
	clear(one)
	if string(two) != "ca" || q.Offer(f, holds, []byte("ghij")) != fine || string(two) != "ca" {
		t.Errorf("%q", two)
	}
	_ = append(two[:0], "YYYYYY"...)
	rest := q.Take(9)
	if string(rest) != "bcghij" {
		t.Errorf("%q", rest)
	}
	q.Offer(f, holds, []byte("klmnop"))
	q.End()
	if string(rest) != "bcghij" {
		t.Errorf("turned to %q", rest)
	}
}

// Rule 1: one that New didn't make panics at nothing, and is like one for no bytes.
func TestNotNew(t *testing.T) {
	var q inq.Queue
	f := seats(t)
	is(t, "not new", &q, 0, 0)
	offers(t, "not new", &q, f, holds, "a", full)
	offers(t, "not new", &q, f, holds, "", fine)
	offers(t, "not new", &q, f, waits, "a", noFloor)
	if got := q.Take(3); len(got) != 0 {
		t.Errorf("%q", got)
	}
	q.End()
	offers(t, "ended", &q, f, holds, "", ended)
	is(t, "ended", &q, 0, 0)

	// A table that floor's New didn't make has nobody.
	offers(t, "a table without users", inq.New(4), &floor.Table{}, 0, "a", nobody)
	offers(t, "a table without users", inq.New(4), &floor.Table{}, 1, "", nobody)
}

// Rule 4: queues know nothing of each other, nor of the table that was handed in ahead.
func TestTwo(t *testing.T) {
	one, two := inq.New(3), inq.New(5)
	f, g := seats(t), floor.New(1)
	g.Join(waits, floor.Owner)
	g.Ask(waits)
	offers(t, "the first table", one, f, holds, "ab", fine)
	offers(t, "the second table", one, g, holds, "c", nobody)
	offers(t, "the second table", one, g, waits, "c", fine)
	offers(t, "the first table", two, f, waits, "d", noFloor)
	offers(t, "the second table", two, g, waits, "de", fine)
	one.End()
	is(t, "one", one, 0, 3)
	is(t, "two", two, 2, 2)
	offers(t, "one", one, f, holds, "f", ended)
	offers(t, "two", two, f, holds, "f", fine)
	if got := two.Take(9); string(got) != "def" {
		t.Errorf("%q", got)
	}
	is(t, "one that is made later", inq.New(3), 0, 0)
}
