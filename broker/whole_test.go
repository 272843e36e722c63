package broker_test

import (
	"fmt"
	"math/rand"
	"slices"
	"strings"
	"testing"

	"kibitzer/api"
	"kibitzer/broker"
	"kibitzer/conf"
	"kibitzer/floor"
	"kibitzer/frame"
	"kibitzer/msg"
)

// parse is the messages of bytes that must be messages.
func parse(t *testing.T, b []byte) []msg.Msg {
	t.Helper()
	var list []msg.Msg
	for len(b) > 0 {
		f, n, err := frame.Get(b)
		m, ok := msg.Of(f)
		if err != api.OK || !ok {
			t.Fatalf("no message: %x", b)
		}
		list, b = append(list, m), b[n:]
	}
	return list
}

// P2: what is written to a viewer who says nothing more.
func TestViewer(t *testing.T) {
	evicted := 0
	for seed := range int64(300) {
		c := chance{rand.New(rand.NewSource(seed))}
		with := c.conf()
		with.Log, with.Idle = 1+c.Intn(300), 0
		r := start(t, with)
		output := c.text(200)
		r.outputs(output)
		r.connects(1)
		r.sends(1, hello(int64(4+c.Intn(4)), int64(c.Intn(100)), "viewer"))
		r.joins(2, watcher, "reader")
		var all []byte
		for range 100 {
			text := c.text(1 + c.Intn(60))
			r.outputs(text)
			output += text
			b, err := r.b.Write(1, c.Intn(70))
			all = append(all, b...)
			r.b.Write(2, 1<<20)
			r.b.Tick()
			if err != api.OK {
				break
			}
		}
		b, _ := r.b.Write(1, 1<<20)
		list := parse(t, append(all, b...))
		if list[len(list)-1].Kind == msg.Evicted {
			evicted++
		}
		holdsP2(t, fmt.Sprintf("seed %d", seed), list, output, with.Strikes)
	}
	if evicted == 0 || evicted == 300 {
		t.Errorf("%d are evicted", evicted)
	}
}

// holdsP2 holds what was written to a viewer against the promise.
func holdsP2(t *testing.T, why string, list []msg.Msg, output string, strikes int) {
	t.Helper()
	if list[0].Kind != msg.Welcome {
		t.Fatalf("%s: the first is %+v", why, list[0])
	}
	at, gaps := list[0].B, 0
	for i, m := range list[1:] {
		switch m.Kind {
		case msg.Data:
			if m.A != at || !strings.HasPrefix(output[at:], m.Text) {
				t.Fatalf("%s: at %d: %+v", why, at, m)
			}
			at += int64(len(m.Text))
		case msg.Gap:
			gaps++
			if m.A != at || m.B <= at || gaps > strikes {
				t.Fatalf("%s: at %d, Gap %d: %+v", why, at, gaps, m)
			}
			at = m.B
		case msg.Evicted:
			if i+2 != len(list) {
				t.Fatalf("%s: behind Evicted: %+v", why, list[i+2:])
			}
		}
	}
}

// P3: what the program is given is what those typed who held the floor then; all else is rejected once, for a reason that holds.
func TestTyped(t *testing.T) {
	reasons := map[int64]int{}
	for seed := range int64(200) {
		c := chance{rand.New(rand.NewSource(seed))}
		with := conf.Default()
		with.Input, with.Lease = 12, 3
		r := start(t, with)
		r.users("owwb")
		var typed, given string
		for n := range int64(120) {
			id := 1 + c.Intn(4)
			r.does(1+c.Intn(4), c.of("floor", "floor", "drop"))
			r.reads(id)
			text := strings.Repeat(string(rune('a'+n%26)), 1+c.Intn(5))
			why := reason(r.b, id, len(typed)-len(given)+len(text) > with.Input)
			r.sends(id, keys(n, text))
			reasons[why]++
			if why == 0 {
				typed += text
				r.gets("taken", id)
			} else {
				r.gets("not taken", id, fmt.Sprintf("Reject %d %d", n, why))
			}
			if c.Intn(3) == 0 {
				given += string(r.b.Drain(c.Intn(9)))
			}
			r.b.Tick()
			for other := 1; other <= 4; other++ {
				r.reads(other)
			}
		}
		given += string(r.b.Drain(1 << 20))
		if given != typed {
			t.Fatalf("seed %d: given %q, not %q", seed, given, typed)
		}
	}
	if len(reasons) != 4 {
		t.Errorf("the reasons: %v", reasons)
	}
}

// reason is why keystrokes of a user may not be taken.
func reason(b *broker.Broker, id int, full bool) int64 {
	role, _ := b.Role(id)
	switch {
	case role == floor.Observer:
		return 3
	case b.Holder() != id:
		return 4
	case full:
		return 5
	}
	return 0
}

// holdsP4 tells whether nobody holds the floor, or a user who is no observer.
func holdsP4(b *broker.Broker) bool {
	role, ok := b.Role(b.Holder())
	return b.Holder() == 0 || ok && role != floor.Observer && slices.Contains(b.Users(), b.Holder())
}

// P4: whatever happens.
func TestHolder(t *testing.T) {
	held := 0
	for seed := range int64(200) {
		c := chance{rand.New(rand.NewSource(-seed))}
		with := c.conf()
		b, m := broker.New(with), newModel(with, map[string]int{})
		for range 250 {
			why := c.happens(t, m, b)
			if !holdsP4(b) {
				t.Fatalf("seed %d: %s: Holder %d of %v", seed, why, b.Holder(), b.Users())
			}
			held += min(b.Holder(), 1)
		}
	}
	if held == 0 {
		t.Error("nobody ever holds the floor")
	}
}

// P5: a viewer behind by no more than is there, to whom enough is written while nothing more comes, is sent all.
func TestCaughtUp(t *testing.T) {
	for seed := range int64(200) {
		c := chance{rand.New(rand.NewSource(seed))}
		with := c.conf()
		with.Log, with.Idle = 400, 0
		r := start(t, with)
		r.joins(1, int64(4+c.Intn(4)), "a")
		output := strings.Repeat(c.text(30), 12)
		r.outputs(output)
		var all []byte
		for range 400 {
			b, _ := r.b.Write(1, 1+c.Intn(30))
			all = append(all, b...)
		}
		r.seen("all", 1, int64(len(output)), true)
		r.waits("none", 1, 0)
		text := ""
		for _, m := range parse(t, all) {
			if m.Kind == msg.Data {
				text += m.Text
			}
		}
		if text != output {
			t.Fatalf("seed %d: %q, not %q", seed, text, output)
		}
	}
}

// P5: who waits as the k-th holds the floor within k leases.
func TestLeases(t *testing.T) {
	for _, lease := range []int{1, 2, 5} {
		c := conf.Default()
		c.Lease = lease
		r := start(t, c)
		r.users("owwww")
		for _, id := range []int{4, 2, 5, 1, 3} {
			r.does(id, "floor")
		}
		for k, id := range []int{4, 2, 5, 1, 3} {
			for tick := range lease {
				if got := r.b.Holder(); got != id {
					t.Fatalf("a lease of %d, %d are over, %d ticks: %d, not %d", lease, k, tick, got, id)
				}
				r.b.Tick()
			}
		}
	}
}
