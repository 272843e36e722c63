package audit_test

import (
	"fmt"
	"math/rand"
	"slices"
	"strings"
	"testing"

	"kibitzer/api"
	"kibitzer/audit"
	"kibitzer/broker"
	"kibitzer/conf"
	"kibitzer/feed"
	"kibitzer/msg"
)

// line is what was written to a connection, from its Connect on.
type line struct {
	feed *feed.Feed
	list []msg.Msg
}

// host is a broker, and what it was given and what it wrote.
type host struct {
	*testing.T
	chance
	b       *broker.Broker
	output  string
	strikes int // the most that may have been
	lines   [api.MaxUsers + 1]line
	met     map[string]int
}

func (c chance) conf() conf.Conf {
	return conf.Conf{
		Log: 1 + c.Intn(40)*(1+c.Intn(20)), Data: 1 + c.Intn(40), Queue: 220 + c.Intn(60)*c.Intn(6), Input: 1 + c.Intn(20),
		Strikes: c.Intn(10) * c.Intn(2), Lease: 1 + c.Intn(4), Idle: c.Intn(2) * (4 + c.Intn(20)), Width: 80,
	}
}

func newHost(t *testing.T, c chance, with conf.Conf, met map[string]int) *host {
	t.Helper()
	b := broker.New(with)
	if b == nil {
		t.Fatalf("%+v: no broker", with)
	}
	return &host{T: t, chance: c, b: b, strikes: with.Strikes, met: met}
}

// puts is the bytes of messages.
func puts(list ...msg.Msg) []byte {
	var b []byte
	for _, m := range list {
		b = msg.Put(b, m)
	}
	return b
}

// command is a command as it is typed.
func command(words string) string { return "\x1d:" + words + "\n" }

// connects lets a connection come, of which nothing was written yet.
func (h *host) connects(id int) {
	if h.b.Connect(id) == api.OK {
		h.lines[id] = line{feed: feed.New()}
	}
}

// outputs lets bytes of the program come.
func (h *host) outputs(text string) {
	if h.b.Output([]byte(text)) == api.OK {
		h.output += text
	}
}

// limits lets an owner turn how many strikes may be.
func (h *host) limits(id, n int) {
	h.strikes = max(h.strikes, n)
	h.b.Bytes(id, puts(msg.Msg{Kind: msg.Keys, Text: command(fmt.Sprintf("limit %d", n))}))
}

// writes lets bytes be written to a connection, of whose messages so far none may not be.
func (h *host) writes(why string, id, n int) {
	h.Helper()
	b, err := h.b.Write(id, n)
	if err != api.OK {
		return
	}
	l := &h.lines[id]
	for _, f := range l.feed.Push(b) {
		m, ok := msg.Of(f)
		if !ok {
			h.Fatalf("%s: no message: %+v", why, f)
		}
		l.list = append(l.list, m)
	}
	if got := audit.First(l.list, h.output, h.strikes); got != -1 {
		h.Fatalf("%s: to %d, of %q, %d strikes: %d of %+v", why, id, h.output, h.strikes, got, l.list)
	}
}

// typed is what a user may type, but what begins the output anew.
func (h *host) typed() string {
	text := ""
	for range 1 + h.Intn(3) {
		n := 1 + h.Intn(5)
		switch h.Intn(12) {
		case 0, 1:
			text += h.text(n)
		case 2, 3, 4:
			text += command("floor")
		case 5:
			text += command([]string{"drop", "revoke", "list", "list"}[h.Intn(4)])
		case 6:
			text += command(fmt.Sprintf("give %d", n))
		case 7:
			text += command(fmt.Sprintf("write %d", n))
		case 8:
			text += command(fmt.Sprintf("watch %d", n))
		case 9:
			text += command(strings.Repeat("x", 20*n))
		case 10:
			text += command("detach")
		case 11:
			text += command(fmt.Sprintf("kick %d", n))
		}
	}
	return text
}

// bytes are what a connection may send.
func (h *host) bytes(id int) []byte {
	if len(h.lines[id].list) == 0 && h.b.Waiting(id) == 0 && h.Intn(10) > 0 {
		return puts(msg.Msg{Kind: msg.Hello, A: int64(4 + h.Intn(4)), B: int64(h.Intn(99)), Text: "u"})
	}
	switch n := h.Intn(40); {
	case n < 28:
		return puts(msg.Msg{Kind: msg.Keys, A: int64(n), Text: h.typed()})
	case n < 34:
		return puts(slices.Repeat([]msg.Msg{{Kind: msg.Ping}}, n*h.Intn(3))...)
	case n < 36:
		return puts(msg.Msg{Kind: msg.Kind(1 + h.Intn(15))})
	case n < 37:
		return []byte(h.text(9))
	case n < 38:
		return puts(msg.Msg{Kind: msg.Hello, A: int64(h.Intn(12)), Text: "u"})
	}
	return nil
}

// happens lets one thing happen.
func (h *host) happens() {
	id := 1 + h.Intn(5)
	switch n := h.Intn(400); {
	case n < 50:
		h.connects(id)
	case n < 160:
		h.b.Bytes(id, h.bytes(id))
	case n < 170:
		h.limits(id, h.Intn(10))
	case n < 240:
		h.outputs(h.text(h.Intn(60)))
	case n < 360:
		h.writes("Write", id, h.Intn(90)*h.Intn(4))
	case n < 370:
		h.b.Drain(h.Intn(30))
	case n < 395:
		h.b.Tick()
	case n < 399:
		// What is written up to then is whole, or ends amid a message.
		h.b.Cut(id)
	default:
		h.b.End(int64(h.Intn(256)))
	}
}

// meets counts what a connection was written.
func (h *host) meets(l line) {
	for i, m := range l.list {
		h.met[fmt.Sprintf("%d, first %v", m.Kind, i == 0)]++
	}
}

// spoils turns what was written so that one message may not be, which First must tell.
func (h *host) spoils(l line) {
	h.Helper()
	gaps, lastGap := 0, 0
	for i, m := range l.list {
		switch m.Kind {
		case msg.Gap:
			gaps, lastGap = gaps+1, i
			tells(h.T, "a Gap that ends elsewhere", with(l.list[:i], i, gap(m.A, m.B+int64(len(h.output)))), h.output, h.strikes, i)
		case msg.Data:
			other := []byte(h.output)
			other[m.A] ^= 1
			tells(h.T, "a byte of the output is otherwise", l.list, string(other), h.strikes, i)
			tells(h.T, "an output that ends amid it", l.list[:i+1], h.output[:m.A+int64(len(m.Text))-1], h.strikes, ahead(l.list, i, m.A+int64(len(m.Text))-1))
			tells(h.T, "Data twice", with(l.list, i, m), h.output, h.strikes, i+1)
		case msg.Evicted, msg.Closed:
			if i != len(l.list)-1 {
				h.Errorf("behind the last: %+v", l.list[i:])
			}
			tells(h.T, "one more behind the last", append(slices.Clone(l.list), pong), h.output, h.strikes, i+1)
		}
	}
	tells(h.T, "as many strikes as Gaps", l.list, h.output, gaps, -1)
	if gaps > 0 {
		tells(h.T, "a strike less than Gaps", l.list, h.output, gaps-1, lastGap)
	}
}

// ahead is the first of a Welcome, a Gap and Data up to a place that doesn't have its place in an output of so many bytes.
func ahead(list []msg.Msg, upTo int, end int64) int {
	for i, m := range list[:upTo] {
		if (m.Kind == msg.Welcome || m.Kind == msg.Gap) && m.B > end || m.Kind == msg.Data && m.A+int64(len(m.Text)) > end {
			return i
		}
	}
	return upTo
}

// P15.1: a broker's own messages, in whatever events, of which none may not be; P2, of whoever doesn't ask for a replay.
func TestBroker(t *testing.T) {
	met := map[string]int{}
	for seed := range int64(1200) {
		c := chance{rand.New(rand.NewSource(seed))}
		h := newHost(t, c, c.conf(), met)
		for range 200 {
			was := h.lines
			h.happens()
			for id, l := range was {
				// Of a connection that is gone all was written that will be; who comes anew begins anew.
				if l.feed != nil && l.feed != h.lines[id].feed {
					h.meets(l)
					h.spoils(l)
				}
			}
		}
		for id := 1; id <= 5; id++ {
			for range 9 {
				h.writes(fmt.Sprintf("seed %d", seed), id, 1<<20)
			}
			h.meets(h.lines[id])
			h.spoils(h.lines[id])
		}
	}
	for k := msg.Welcome; k <= msg.Exit; k++ {
		if met[fmt.Sprintf("%d, first false", k)] == 0 && k != msg.Welcome {
			t.Errorf("the kind %d is never written behind the first", k)
		}
	}
	if met[fmt.Sprintf("%d, first true", msg.Welcome)] == 0 || met[fmt.Sprintf("%d, first true", msg.Closed)] == 0 {
		t.Error("Welcome, or Closed, is never the first")
	}
}

// P15.1: who asks for a replay is sent what may be up to that, and from there on what may be behind a Welcome to there.
func TestReplay(t *testing.T) {
	anew := 0
	for seed := range int64(400) {
		c := chance{rand.New(rand.NewSource(seed))}
		with := c.conf()
		with.Idle, with.Queue = 0, 400
		h := newHost(t, c, with, nil)
		h.connects(1)
		h.b.Bytes(1, puts(msg.Msg{Kind: msg.Hello, A: 5, Text: "u"}))
		for range 6 {
			h.outputs(h.text(h.Intn(60)))
			h.writes("ahead of the replay", 1, h.Intn(200))
		}
		for h.b.Waiting(1) > 0 {
			h.writes("all up to the replay", 1, 50)
		}
		upTo, ok := h.b.Seen(1)
		if !ok {
			continue
		}
		before, back := h.lines[1].list, h.Intn(90)
		at := int64(max(len(h.output)-back, len(h.output)-with.Log, 0))
		h.lines[1].list = []msg.Msg{welcome(at)}
		h.b.Bytes(1, puts(msg.Msg{Kind: msg.Keys, Text: command(fmt.Sprintf("replay %d", back))}))
		for range 6 {
			h.writes("behind the replay", 1, h.Intn(200))
			h.outputs(h.text(h.Intn(60)))
		}
		behind := h.lines[1].list[1:]
		next := slices.IndexFunc(behind, func(m msg.Msg) bool { return m.Kind == msg.Data || m.Kind == msg.Gap })
		if next < 0 || at == upTo {
			continue
		}
		anew++
		tells(t, fmt.Sprintf("seed %d: replay of %d", seed, back), append(slices.Clone(before), behind...), h.output, 99, len(before)+next)
	}
	if anew < 50 {
		t.Errorf("%d begin anew", anew)
	}
}
