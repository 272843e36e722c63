package play_test

import (
	"fmt"
	"slices"
	"strings"
	"testing"

	"kibitzer/api"
	"kibitzer/broker"
	"kibitzer/conf"
	"kibitzer/floor"
	"kibitzer/msg"
	"kibitzer/play"
	"kibitzer/script"
)

// puts is the bytes of messages, as a text.
func puts(list ...msg.Msg) string {
	var b []byte
	for _, m := range list {
		b = msg.Put(b, m)
	}
	return string(b)
}

// What a connection sends, and is sent.

func hello(a int64, name string) string { return puts(msg.Msg{Kind: msg.Hello, A: a, Text: name}) }

func keys(text string) string { return puts(msg.Msg{Kind: msg.Keys, A: 9, Text: text}) }

func welcome(id, at int64, role string) string {
	return puts(msg.Msg{Kind: msg.Welcome, A: id, B: at, Text: role})
}

func holder(id int64) string { return puts(msg.Msg{Kind: msg.Floor, A: id}) }

func notice(text string) string { return puts(msg.Msg{Kind: msg.Notice, Text: text}) }

func data(at int64, text string) string {
	return puts(msg.Msg{Kind: msg.Data, A: at, Text: text})
}

func exit(code int64) string { return puts(msg.Msg{Kind: msg.Exit, A: code}) }

func closed(why int64) string { return puts(msg.Msg{Kind: msg.Closed, A: why}) }

// quick is a conf of which little is enough: who sends nothing for three ticks is shut.
var quick = conf.Conf{Log: 100, Data: 50, Queue: 400, Input: 10, Strikes: 1, Lease: 2, Idle: 3, Width: 10}

// newBroker is a broker that must be.
func newBroker(t *testing.T, c conf.Conf) *broker.Broker {
	t.Helper()
	b := broker.New(c)
	if b == nil {
		t.Fatalf("%+v: no broker", c)
	}
	return b
}

// shows is all that a broker shows.
func shows(b *broker.Broker) string {
	column, row := b.Spot()
	s := fmt.Sprint(b.Conns(), b.Users(), b.Holder(), column, row)
	for id := -1; id <= 17; id++ {
		role, isUser := b.Role(id)
		seen, isOpen := b.Seen(id)
		s += fmt.Sprint(";", id, role, isUser, seen, isOpen, b.Waiting(id))
	}
	return s
}

// writes is all that a broker still tells, by a course of calls that ends by taking all that waits.
func writes(b *broker.Broker) string {
	s := ""
	take := func() {
		for id := 1; id <= 16; id++ {
			bytes, err := b.Write(id, 1<<20)
			s += fmt.Sprintf("%d %s %x;", id, err.Word(), bytes)
		}
		s += shows(b)
	}
	take()
	s += fmt.Sprint(b.Connect(3), b.Bytes(3, []byte(hello(5, "late"))), b.Bytes(1, []byte(keys("ab\x1d:floor\n"))))
	take()
	for range 3 {
		b.Tick()
		take()
	}
	s += fmt.Sprint(b.Output([]byte("more\n")))
	take()
	s += fmt.Sprintf("%q", b.Drain(1<<20)) + fmt.Sprint(b.End(7))
	take()
	return s
}

// same holds two brokers against each other, by what they show and by what they write afterwards.
func same(t *testing.T, why string, got, want *broker.Broker) {
	t.Helper()
	if a, b := shows(got), shows(want); a != b {
		t.Fatalf("%s: shown is %s, not %s", why, a, b)
	}
	if a, b := writes(got), writes(want); a != b {
		t.Fatalf("%s: written is %s, not %s", why, a, b)
	}
}

// courses are what happened to a broker ahead of what is tested, from nothing to all that there is.
func courses() []func(b *broker.Broker) {
	users := func(b *broker.Broker) {
		b.Connect(1)
		b.Bytes(1, []byte(hello(5, "a")))
		b.Connect(2)
		b.Bytes(2, []byte(hello(5, "b")))
	}
	typed := func(b *broker.Broker) {
		users(b)
		b.Bytes(1, []byte(keys("\x1d:floor\n")))
		b.Bytes(1, []byte(keys("typed")))
		b.Output([]byte("out\nput"))
		b.Tick()
	}
	return []func(b *broker.Broker){
		func(b *broker.Broker) {},
		func(b *broker.Broker) { b.Connect(1) },
		users,
		typed,
		func(b *broker.Broker) {
			typed(b)
			b.Write(1, 10)
			b.Bytes(2, []byte(puts(msg.Msg{Kind: msg.Bye})))
			b.Connect(16)
		},
		func(b *broker.Broker) {
			typed(b)
			b.End(3)
		},
	}
}

// wrong are events that aren't Right, of each Kind and of none; most would do something, if they were done.
func wrong() []script.Event {
	full := string(make([]byte, 4001))
	return []script.Event{
		{Kind: -1},
		{Kind: -1, ID: 1, N: 9, Data: "x"},
		{Kind: 8},
		{Kind: 8, ID: 1, N: 9, Data: "x"},
		{Kind: 256, ID: 3},
		{Kind: script.Connect, ID: -1},
		{Kind: script.Connect, ID: 256},
		{Kind: script.Connect, ID: 256 + 3},
		{Kind: script.Connect, ID: 3, N: 1},
		{Kind: script.Connect, ID: 3, Data: "x"},
		{Kind: script.Bytes, ID: -1, Data: "x"},
		{Kind: script.Bytes, ID: 256 + 1, Data: keys("x")},
		{Kind: script.Bytes, ID: 1, N: 1, Data: keys("x")},
		{Kind: script.Bytes, ID: 1, N: -1},
		{Kind: script.Bytes, ID: 1, Data: full},
		{Kind: script.Write, ID: -1, N: 5},
		{Kind: script.Write, ID: 256 + 1, N: 5},
		{Kind: script.Write, ID: 1, N: -1},
		{Kind: script.Write, ID: 1, N: 65537},
		{Kind: script.Write, ID: 1, N: 5, Data: "x"},
		{Kind: script.Output, ID: 1, Data: "x"},
		{Kind: script.Output, N: 1, Data: "x"},
		{Kind: script.Output, Data: full},
		{Kind: script.Drain, ID: 1, N: 2},
		{Kind: script.Drain, N: -1},
		{Kind: script.Drain, N: 65537},
		{Kind: script.Drain, N: 2, Data: "x"},
		{Kind: script.Tick, ID: 1},
		{Kind: script.Tick, N: 1},
		{Kind: script.Tick, Data: "x"},
		{Kind: script.Cut, ID: -1},
		{Kind: script.Cut, ID: 256 + 1},
		{Kind: script.Cut, ID: 1, N: 1},
		{Kind: script.Cut, ID: 1, Data: "x"},
		{Kind: script.End, ID: 1},
		{Kind: script.End, N: -1},
		{Kind: script.End, N: 65537},
		{Kind: script.End, Data: "x"},
	}
}

// brief is an event as it is told where a test fails.
func brief(e script.Event) string {
	return fmt.Sprintf("Kind %d, ID %d, N %d, %.40q", e.Kind, e.ID, e.N, e.Data)
}

// P17.1: an event that isn't Right: ErrArg, and whatever the broker shows and writes afterwards is as before.
func TestWrong(t *testing.T) {
	for i, course := range courses() {
		for _, e := range wrong() {
			got, want := newBroker(t, quick), newBroker(t, quick)
			course(got)
			course(want)
			if out := play.Do(got, e); out != (play.Out{Err: api.ErrArg}) {
				t.Fatalf("course %d: %s: %+v", i, brief(e), out)
			}
			same(t, fmt.Sprintf("course %d: %s", i, brief(e)), got, want)
		}
	}
}

// step is an event, and what must come of it.
type step struct {
	kind script.Kind
	id   int
	n    int
	data string
	err  api.Errno
	told string
}

func (s step) event() script.Event { return script.Event{Kind: s.kind, ID: s.id, N: s.n, Data: s.data} }

// steps are a course in which each Kind's call tells each error that a script can bring about; written out.
func steps() []step {
	const ok, all = api.OK, 65536
	atFirst := welcome(1, 0, "owner") + holder(0) + notice("joined 2 b") + holder(1) + data(0, "hi")
	return []step{
		{script.Connect, 0, 0, "", api.ErrArg, ""},
		{script.Connect, 17, 0, "", api.ErrArg, ""},
		{script.Connect, 255, 0, "", api.ErrArg, ""},
		{script.Connect, 1, 0, "", ok, ""},
		{script.Connect, 1, 0, "", api.ErrState, ""},
		{script.Bytes, 2, 0, hello(5, "b"), api.ErrNone, ""},
		{script.Bytes, 255, 0, "", api.ErrNone, ""},
		{script.Write, 2, 9, "", api.ErrNone, ""},
		{script.Cut, 2, 0, "", api.ErrNone, ""},
		{script.Cut, 0, 0, "", api.ErrNone, ""},
		{script.Write, 1, all, "", ok, ""},
		{script.Bytes, 1, 0, "", ok, ""},
		{script.Bytes, 1, 0, hello(5, "a")[:7], ok, ""},
		{script.Bytes, 1, 0, hello(5, "a")[7:], ok, ""},
		{script.Connect, 2, 0, "", ok, ""},
		{script.Bytes, 2, 0, hello(4, "b"), ok, ""},
		{script.Drain, 0, all, "", ok, ""},
		{script.Bytes, 1, 0, keys("\x1d:floor\n") + keys("ab") + keys("cd"), ok, ""},
		{script.Drain, 0, 0, "", ok, ""},
		{script.Drain, 0, 3, "", ok, "abc"},
		{script.Drain, 0, all, "", ok, "d"},
		{script.Drain, 0, 1, "", ok, ""},
		{script.Output, 0, 0, "hi", ok, ""},
		{script.Output, 0, 0, "", ok, ""},
		{script.Write, 1, 0, "", ok, ""},
		{script.Write, 1, 1, "", ok, atFirst[:1]},
		{script.Write, 1, 20, "", ok, atFirst[1:21]},
		{script.Write, 1, all, "", ok, atFirst[21:]},
		{script.Write, 1, all, "", ok, ""},
		{script.Tick, 0, 0, "", ok, ""},
		{script.Tick, 0, 0, "", ok, ""},
		{script.Bytes, 1, 0, keys("z"), ok, ""},
		{script.Tick, 0, 0, "", ok, ""},
		{script.Write, 2, all, "", ok, welcome(2, 0, "observer") + holder(0) + holder(1) + data(0, "hi") + closed(6)},
		{script.Write, 1, all, "", ok, notice("left 2")},
		{script.Cut, 2, 0, "", api.ErrNone, ""},
		{script.Connect, 2, 0, "", ok, ""},
		{script.Bytes, 2, 0, puts(msg.Msg{Kind: msg.Bye}), ok, ""},
		{script.Bytes, 2, 0, hello(5, "b"), api.ErrState, ""},
		{script.Connect, 2, 0, "", api.ErrState, ""},
		{script.Cut, 2, 0, "", ok, ""},
		{script.End, 0, 256, "", api.ErrArg, ""},
		{script.End, 0, 65536, "", api.ErrArg, ""},
		{script.End, 0, 255, "", ok, ""},
		{script.Write, 1, all, "", ok, exit(255)},
		{script.Drain, 0, all, "", ok, ""},
		{script.End, 0, 0, "", api.ErrState, ""},
		{script.End, 0, 256, "", api.ErrState, ""},
		{script.Output, 0, 0, "more", api.ErrState, ""},
		{script.Cut, 1, 0, "", ok, ""},
		{script.Write, 1, all, "", api.ErrNone, ""},
	}
}

// events are the course's events, and what must come of them.
func events() (list []script.Event, outs []play.Out) {
	for _, s := range steps() {
		list = append(list, s.event())
		outs = append(outs, play.Out{Err: s.err, Data: s.told})
	}
	return list, outs
}

// P17.1: each Kind's call, with its ID, N and Data, its error and its bytes.
func TestDo(t *testing.T) {
	b := newBroker(t, quick)
	list, outs := events()
	for i, e := range list {
		if out := play.Do(b, e); out != outs[i] {
			t.Fatalf("step %d: %s: %s %q, not %s %q", i, brief(e), out.Err.Word(), out.Data, outs[i].Err.Word(), outs[i].Data)
		}
	}
	if len(b.Conns()) != 0 || b.Holder() != 0 {
		t.Error(shows(b))
	}
}

// P17.1: the document's example.
func TestExample(t *testing.T) {
	_, outs := play.Events(conf.Default(), []script.Event{{Kind: script.Connect, ID: 1}, {Kind: script.Write, ID: 1, N: 1}})
	if !slices.Equal(outs, []play.Out{{}, {}}) {
		t.Errorf("%+v", outs)
	}
}

// P17.1: as much as an event may have.
func TestMost(t *testing.T) {
	c := conf.Conf{Log: 65536, Data: 2042, Queue: 65536, Input: 65536, Strikes: 0, Lease: 1, Idle: 0, Width: 500}
	b := newBroker(t, c)
	text := strings.Repeat("0123456789", 400)
	pings := puts(slices.Repeat([]msg.Msg{{Kind: msg.Ping}}, 800)...)
	want := welcome(1, 0, "owner") + holder(0) + data(0, text[:2042]) + data(2042, text[2042:]) + puts(slices.Repeat([]msg.Msg{{Kind: msg.Pong}}, 800)...)
	if len(pings) != 4000 {
		t.Fatal(len(pings))
	}
	for _, s := range []step{
		{script.Connect, 1, 0, "", api.OK, ""},
		{script.Bytes, 1, 0, hello(5, "a"), api.OK, ""},
		{script.Output, 0, 0, text, api.OK, ""},
		{script.Bytes, 1, 0, pings, api.OK, ""},
		{script.Write, 1, 65536, "", api.OK, want},
	} {
		if out := play.Do(b, s.event()); out != (play.Out{Err: s.err, Data: s.told}) {
			t.Fatalf("%s: %s, %d bytes", brief(s.event()), out.Err.Word(), len(out.Data))
		}
	}
}

// P17.1: a broker that New didn't make is one, too.
func TestNotNew(t *testing.T) {
	for _, e := range append(wrong(), func() []script.Event { list, _ := events(); return list }()...) {
		got, want := &broker.Broker{}, &broker.Broker{}
		if out := play.Do(got, e); out != byHand(want, e) {
			t.Errorf("%s: %+v", brief(e), out)
		}
	}
}

// role is a user's role as it must be.
func role(t *testing.T, b *broker.Broker, id int, want floor.Role) {
	t.Helper()
	if got, ok := b.Role(id); got != want || !ok {
		t.Errorf("%d: %d, %v", id, got, ok)
	}
}

// P17.1: Events of a conf that isn't Right.
func TestNoBroker(t *testing.T) {
	list, _ := events()
	for _, turn := range []func(c *conf.Conf){
		func(c *conf.Conf) { *c = conf.Conf{} },
		func(c *conf.Conf) { c.Log = 0 },
		func(c *conf.Conf) { c.Data = 2043 },
		func(c *conf.Conf) { c.Queue = 219 },
		func(c *conf.Conf) { c.Input = 65537 },
		func(c *conf.Conf) { c.Strikes = -1 },
		func(c *conf.Conf) { c.Lease = 0 },
		func(c *conf.Conf) { c.Idle = 1001 },
		func(c *conf.Conf) { c.Width = 501 },
	} {
		c := quick
		turn(&c)
		for _, list := range [][]script.Event{nil, list, wrong()} {
			if b, outs := play.Events(c, list); b != nil || len(outs) != 0 {
				t.Errorf("%+v: %d outs", c, len(outs))
			}
		}
	}
}

// P17.1: Events: a new broker each time, of that conf, and what comes of each event, in order.
func TestEvents(t *testing.T) {
	if b, outs := play.Events(quick, nil); len(outs) != 0 || shows(b) != shows(newBroker(t, quick)) {
		t.Error("no events")
	}
	list, outs := events()
	was := slices.Clone(list)
	for n := range len(list) + 1 {
		b, got := play.Events(quick, list[:n])
		if !slices.Equal(got, outs[:n]) {
			t.Fatalf("%d events: %+v", n, got)
		}
		want := newBroker(t, quick)
		for _, e := range list[:n] {
			byHand(want, e)
		}
		same(t, fmt.Sprintf("%d events", n), b, want)
	}
	if !slices.Equal(list, was) {
		t.Error("the events are turned")
	}
}

// P17.1: an event that isn't Right amid others is told, and the others are done as without it.
func TestWrongAmid(t *testing.T) {
	list, outs := events()
	for _, e := range wrong() {
		var with []script.Event
		for _, other := range list {
			with = append(with, other, e)
		}
		b, got := play.Events(quick, with)
		if len(got) != 2*len(list) {
			t.Fatalf("%s: %d outs", brief(e), len(got))
		}
		for i, want := range outs {
			if got[2*i] != want || got[2*i+1] != (play.Out{Err: api.ErrArg}) {
				t.Fatalf("%s: behind step %d: %+v", brief(e), i, got[2*i:2*i+2])
			}
		}
		want, _ := play.Events(quick, list)
		same(t, brief(e), b, want)
	}
}

// P17.1: what a broker shows behind a course; written out.
func TestShown(t *testing.T) {
	b, _ := play.Events(quick, []script.Event{
		{Kind: script.Connect, ID: 1},
		{Kind: script.Connect, ID: 16},
		{Kind: script.Connect, ID: 2},
		{Kind: script.Bytes, ID: 16, Data: hello(5, "p")},
		{Kind: script.Bytes, ID: 1, Data: hello(4, "a")},
		{Kind: script.Bytes, ID: 16, Data: keys("\x1d:floor\n")},
		{Kind: script.Output, Data: "ab\ncde"},
	})
	column, row := b.Spot()
	if !slices.Equal(b.Conns(), []int{1, 2, 16}) || !slices.Equal(b.Users(), []int{1, 16}) || b.Holder() != 16 || column != 5 || row != 1 {
		t.Error(shows(b))
	}
	role(t, b, 1, floor.Observer)
	role(t, b, 16, floor.Owner)
	if at, ok := b.Seen(1); at != 6 || !ok {
		t.Error(at, ok)
	}
}
