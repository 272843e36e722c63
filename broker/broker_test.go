package broker_test

import (
	"fmt"
	"math"
	"slices"
	"strings"
	"testing"

	"kibitzer/api"
	"kibitzer/broker"
	"kibitzer/conf"
	"kibitzer/floor"
	"kibitzer/frame"
	"kibitzer/msg"
)

// A queue for as little as may be, of which output has 20 bytes: 9 of one Data.
var small = conf.Conf{Log: 1000, Data: 500, Queue: 220, Input: 10, Strikes: 1, Lease: 3, Idle: 0, Width: 80}

// What a Hello's A may be: the version, and the two bits.
const watcher, typist, watcherByLine, typistByLine = 4, 5, 6, 7

// rig is a broker that is tested.
type rig struct {
	*testing.T
	b *broker.Broker
}

func start(t *testing.T, c conf.Conf) rig {
	t.Helper()
	b := broker.New(c)
	if b == nil {
		t.Fatalf("%+v: no broker", c)
	}
	return rig{t, b}
}

// is holds an error against what it must be.
func (r rig) is(why string, got, want api.Errno) {
	r.Helper()
	if got != want {
		r.Fatalf("%s: %s, not %s", why, got.Word(), want.Word())
	}
}

// messages is the bytes of messages.
func messages(list ...msg.Msg) []byte {
	var b []byte
	for _, m := range list {
		b = msg.Put(b, m)
	}
	return b
}

// framed is the bytes of one frame.
func framed(kind byte, body string) []byte {
	return frame.Put(nil, frame.Frame{Kind: kind, Body: []byte(body)})
}

// sends lets messages of a connection come at once.
func (r rig) sends(id int, list ...msg.Msg) {
	r.Helper()
	r.is(fmt.Sprintf("Bytes of %d", id), r.b.Bytes(id, messages(list...)), api.OK)
}

func (r rig) connects(id int) {
	r.Helper()
	r.is(fmt.Sprintf("Connect of %d", id), r.b.Connect(id), api.OK)
}

func hello(a, back int64, name string) msg.Msg {
	return msg.Msg{Kind: msg.Hello, A: a, B: back, Text: name}
}

// joins lets a user come, whose messages stay unread.
func (r rig) joins(id int, a int64, name string) {
	r.Helper()
	r.connects(id)
	r.sends(id, hello(a, 0, name))
}

// users lets an owner come, and then others, all from 1 on, by their roles' first letters; what was told so far is read.
func (r rig) users(roles string) {
	r.Helper()
	for i, role := range roles {
		a := int64(typist)
		if role == 'b' {
			a = watcher
		}
		r.joins(i+1, a, string(rune('A'+i)))
	}
	for i := range roles {
		r.reads(i + 1)
	}
}

func keys(a int64, text string) msg.Msg { return msg.Msg{Kind: msg.Keys, A: a, Text: text} }

// command is a command as it is typed.
func command(line string) string { return "\x1d:" + line + "\n" }

// does lets a user type commands, in one message.
func (r rig) does(id int, lines ...string) {
	r.Helper()
	text := ""
	for _, line := range lines {
		text += command(line)
	}
	r.sends(id, keys(0, text))
}

// word is a message as a line.
func word(m msg.Msg) string {
	switch m.Kind {
	case msg.Welcome:
		return fmt.Sprintf("Welcome %d %d %s", m.A, m.B, m.Text)
	case msg.Data:
		return fmt.Sprintf("Data %d %s", m.A, m.Text)
	case msg.Gap:
		return fmt.Sprintf("Gap %d %d", m.A, m.B)
	case msg.Reject:
		return fmt.Sprintf("Reject %d %d", m.A, m.B)
	case msg.Floor:
		return fmt.Sprintf("Floor %d", m.A)
	case msg.Closed:
		return fmt.Sprintf("Closed %d", m.A)
	case msg.Exit:
		return fmt.Sprintf("Exit %d", m.A)
	case msg.Notice:
		return m.Text
	case msg.Denied:
		return "Denied " + m.Text
	case msg.Evicted:
		return "Evicted"
	case msg.Pong:
		return "Pong"
	}
	return fmt.Sprintf("of a user: %+v", m)
}

// words are messages' bytes as lines; what is left of a message that isn't whole is told likewise.
func words(b []byte) []string {
	var list []string
	for len(b) > 0 {
		f, n, err := frame.Get(b)
		m, ok := msg.Of(f)
		if err != api.OK || !ok {
			return append(list, fmt.Sprintf("no message: %x", b))
		}
		list, b = append(list, word(m)), b[n:]
	}
	return list
}

// reads is all that waits for a connection at once.
func (r rig) reads(id int) []string {
	r.Helper()
	b, err := r.b.Write(id, 1<<20)
	r.is(fmt.Sprintf("Write of %d", id), err, api.OK)
	return words(b)
}

// gets holds what waits for a connection against what it must be.
func (r rig) gets(why string, id int, want ...string) {
	r.Helper()
	if got := r.reads(id); !slices.Equal(got, want) {
		r.Fatalf("%s: %d is sent %q, not %q", why, id, got, want)
	}
}

// fill lets messages wait for a user till there is room for just so many bytes more.
func (r rig) fill(c conf.Conf, id, room int) {
	r.Helper()
	n := c.Queue - r.b.Waiting(id) - room
	if n == 0 {
		return
	}
	list := slices.Repeat([]msg.Msg{{Kind: msg.Ping}}, n/5-1)
	r.sends(id, append(list, keys(0, command(strings.Repeat("x", n%5))))...)
	if got := c.Queue - r.b.Waiting(id); got != room {
		r.Fatalf("room for %d, not for %d", got, room)
	}
}

// there holds the connections, the users and the holder against what they must be.
func (r rig) there(why string, conns, users []int, holder int) {
	r.Helper()
	if got := r.b.Conns(); !slices.Equal(got, conns) {
		r.Fatalf("%s: Conns %v, not %v", why, got, conns)
	}
	if got := r.b.Users(); !slices.Equal(got, users) {
		r.Fatalf("%s: Users %v, not %v", why, got, users)
	}
	if got := r.b.Holder(); got != holder {
		r.Fatalf("%s: Holder %d, not %d", why, got, holder)
	}
}

// role holds a user's role against what it must be.
func (r rig) role(why string, id int, want floor.Role, there bool) {
	r.Helper()
	if got, ok := r.b.Role(id); got != want || ok != there {
		r.Fatalf("%s: %d's role %d, %v; not %d, %v", why, id, got, ok, want, there)
	}
}

// seen holds how far a user was sent what there is against what that must be.
func (r rig) seen(why string, id int, want int64, there bool) {
	r.Helper()
	if got, ok := r.b.Seen(id); got != want || ok != there {
		r.Fatalf("%s: Seen of %d is %d, %v; not %d, %v", why, id, got, ok, want, there)
	}
}

// waits holds how many bytes wait for a connection against what that must be.
func (r rig) waits(why string, id, want int) {
	r.Helper()
	if got := r.b.Waiting(id); got != want {
		r.Fatalf("%s: %d bytes wait for %d, not %d", why, got, id, want)
	}
}

// drains holds what waits for the program against what it must be.
func (r rig) drains(why string, n int, want string) {
	r.Helper()
	if got := r.b.Drain(n); string(got) != want {
		r.Fatalf("%s: Drain of %d is %q, not %q", why, n, got, want)
	}
}

func (r rig) outputs(text string) {
	r.Helper()
	r.is("Output", r.b.Output([]byte(text)), api.OK)
}

// Numbers that are no connection's.
var noNumbers = []int{math.MinInt, -16, -1, 0, 17, 1 << 20, 1<<32 + 1, math.MaxInt}

// The document's example.
func TestExample(t *testing.T) {
	r := start(t, conf.Default())
	r.connects(1)
	r.sends(1, hello(5, 0, "a"))
	r.gets("Hello", 1, "Welcome 1 0 owner", "Floor 0")
	r.sends(1, keys(0, "\x1d:floor\n"))
	r.gets("floor", 1, "Floor 1")
}

// P14.1: New of a Conf that isn't Right, by each of its parts, and of one that just is.
func TestNew(t *testing.T) {
	if broker.New(conf.Conf{}) != nil {
		t.Error("of the zero Conf there is a broker")
	}
	for _, c := range []struct {
		part        string
		of          func(c *conf.Conf) *int
		least, most int
	}{
		{"Log", func(c *conf.Conf) *int { return &c.Log }, 1, 65536},
		{"Data", func(c *conf.Conf) *int { return &c.Data }, 1, 2042},
		{"Queue", func(c *conf.Conf) *int { return &c.Queue }, 220, 65536},
		{"Input", func(c *conf.Conf) *int { return &c.Input }, 1, 65536},
		{"Strikes", func(c *conf.Conf) *int { return &c.Strikes }, 0, 9},
		{"Lease", func(c *conf.Conf) *int { return &c.Lease }, 1, 1000},
		{"Idle", func(c *conf.Conf) *int { return &c.Idle }, 0, 1000},
		{"Width", func(c *conf.Conf) *int { return &c.Width }, 1, 500},
	} {
		for n, is := range map[int]bool{c.least: true, c.most: true, c.least - 1: false, c.most + 1: false, math.MinInt: false, math.MaxInt: false} {
			with := conf.Default()
			*c.of(&with) = n
			if got := broker.New(with); (got != nil) != is {
				t.Errorf("%s %d: a broker: %v", c.part, n, got != nil)
			}
		}
	}
}

// P14.1, P14.7: a broker without connections.
func TestEmpty(t *testing.T) {
	r := start(t, conf.Default())
	r.there("none", nil, nil, 0)
	for _, id := range append(noNumbers, 1, 2, 15, 16) {
		r.waits("none", id, 0)
		r.seen("none", id, 0, false)
		r.role("none", id, 0, false)
		if b, err := r.b.Write(id, 9); len(b) > 0 || err != api.ErrNone {
			t.Errorf("Write of %d: %q, %s", id, b, err.Word())
		}
		r.is("Bytes", r.b.Bytes(id, messages(hello(5, 0, "a"))), api.ErrNone)
		r.is("Bytes of none", r.b.Bytes(id, nil), api.ErrNone)
		r.is("Cut", r.b.Cut(id), api.ErrNone)
	}
	if column, row := r.b.Spot(); column != 0 || row != 0 {
		t.Errorf("Spot %d, %d", column, row)
	}
	r.drains("none", 9, "")
	r.b.Tick()
	r.outputs("")
	r.is("End", r.b.End(0), api.OK)
	r.there("still none", nil, nil, 0)
}

// P14.1: what there is has the Conf's bounds.
func TestParts(t *testing.T) {
	c := conf.Conf{Log: 4, Data: 2, Queue: 300, Input: 3, Strikes: 2, Lease: 2, Idle: 0, Width: 3}
	r := start(t, c)
	r.outputs("abcdef")
	if column, row := r.b.Spot(); column != 0 || row != 2 {
		t.Errorf("a Spot of 3 columns: %d, %d", column, row)
	}
	r.connects(1)
	r.sends(1, hello(typist, 100, "a"))
	r.gets("a log of 4 bytes, pieces of 2", 1, "Welcome 1 2 owner", "Floor 0", "Data 2 cd", "Data 4 ef")
	r.does(1, "floor")
	r.sends(1, keys(1, "abcd"), keys(2, "abc"))
	r.gets("an input of 3 bytes", 1, "Floor 1", "Reject 1 5")
	r.drains("an input of 3 bytes", 9, "abc")
	r.joins(2, typist, "b")
	r.does(2, "floor")
	r.b.Tick()
	r.there("a lease of 2 ticks", []int{1, 2}, []int{1, 2}, 1)
	r.b.Tick()
	r.there("a lease of 2 ticks", []int{1, 2}, []int{1, 2}, 2)
	r.is("Cut", r.b.Cut(2), api.OK)
	r.reads(1)
	r.outputs("0123456789")
	r.gets("the first strike", 1, "Gap 6 12", "Data 12 67", "Data 14 89")
	r.outputs("0123456789")
	r.gets("the second strike", 1, "Gap 16 22", "Data 22 67", "Data 24 89")
	r.outputs("0123456789")
	r.gets("no strike may be any more", 1, "Evicted")
}

// Each message that a user may be sent for what somebody did, and how many bytes it has.
var told = []struct {
	word string
	size int
	by   func(r rig)
}{
	{"Pong", 5, func(r rig) { r.sends(2, msg.Msg{Kind: msg.Ping}) }},
	{"Reject 7 4", 17, func(r rig) { r.sends(2, keys(7, "k")) }},
	{"Denied ", 5, func(r rig) { r.does(2, "") }},
	{"Denied revoke", 11, func(r rig) { r.does(2, "revoke") }},
	{"Floor 1", 11, func(r rig) { r.does(1, "floor") }},
	{"Exit 3", 11, func(r rig) { r.is("End", r.b.End(3), api.OK) }},
	{"joined 4 dee", 17, func(r rig) { r.joins(4, typist, "dee") }},
	{"joined 16 " + strings.Repeat("~", 20), 35, func(r rig) { r.joins(16, typist, strings.Repeat("~", 20)) }},
	{"left 3", 11, func(r rig) { r.is("Cut", r.b.Cut(3), api.OK) }},
}

// P14.2: a message that just fits into a connection's queue, and one byte more.
func TestRoom(t *testing.T) {
	for _, c := range told {
		r := start(t, small)
		r.users("oww")
		r.fill(small, 2, c.size)
		c.by(r)
		r.waits(c.word, 2, 220)
		r.role(c.word, 2, floor.Writer, true)
		got := r.reads(2)
		if last := got[len(got)-1]; last != c.word {
			t.Errorf("the last message is %q, not %q", last, c.word)
		}

		r = start(t, small)
		r.users("oww")
		r.fill(small, 2, c.size-1)
		c.by(r)
		r.waits(c.word+", a byte more", 2, 220-c.size+1)
		r.role(c.word+", a byte more", 2, 0, false)
		if got = r.reads(1); !slices.Contains(got, "left 2") {
			t.Errorf("%s, a byte more: 1 is told %q", c.word, got)
		}
		got = r.reads(2)
		if slices.Contains(got, c.word) && c.word != "Pong" && c.word != "Denied " {
			t.Errorf("%s, a byte more: it is there: %q", c.word, got)
		}
		r.is("it was closing", r.b.Cut(2), api.ErrNone)
	}
}

// P14.2: of a list each message takes room of its own: who has none for one of them is sent none behind it.
func TestRoomOfList(t *testing.T) {
	for room, want := range map[int]int{5: 0, 13: 0, 14: 1, 28: 1, 29: 2, 43: 2, 44: 3, 58: 3} {
		c := conf.Default()
		r := start(t, c)
		r.users("owww")
		r.fill(c, 4, room)
		r.does(4, "list")
		got := r.reads(4)
		lines := []string{"1 owner A", "2 writer B", "3 writer C", "4 writer D"}[:want]
		if n := len(got) - want; !slices.Equal(got[n:], lines) || slices.Contains(got[:n], "1 owner A") {
			t.Errorf("room for %d: %q", room, got[max(n-2, 0):])
		}
		r.role("list", 4, 0, false)
		r.gets("list", 1, "left 4")
	}
}

// P14.2: who leaves while all are told something: that is told at once, by rising numbers, and what was told goes on behind it.
func TestLeftAmidOthers(t *testing.T) {
	r := start(t, small)
	r.users("owwww")
	r.fill(small, 2, 10)
	r.fill(small, 4, 10)
	r.is("End", r.b.End(3), api.OK)
	r.gets("ahead of both", 1, "Exit 3", "left 2", "left 4")
	r.gets("between them", 3, "left 2", "left 4", "Exit 3")
	r.gets("behind both", 5, "left 4", "left 2", "Exit 3")
	r.there("two left", []int{1, 2, 3, 4, 5}, []int{1, 3, 5}, 0)
	for _, id := range []int{2, 4} {
		if got := r.reads(id); slices.Contains(got, "Exit 3") || slices.Contains(got, "left 2") || slices.Contains(got, "left 4") {
			t.Errorf("%d is told: %q", id, got)
		}
	}
	r.there("two left, all written", []int{1, 3, 5}, []int{1, 3, 5}, 0)

	r = start(t, small)
	r.users("owwww")
	for _, id := range []int{1, 2, 4, 5} {
		r.fill(small, id, 10)
	}
	r.joins(6, typist, "f")
	r.gets("all but one leave", 3, "left 2", "left 4", "left 5", "left 1", "joined 6 f")
	r.gets("who comes isn't told", 6, "Welcome 6 0 owner", "Floor 0")
}

// P14.2: what is closing is sent nothing more.
func TestClosingIsToldNothing(t *testing.T) {
	r := start(t, conf.Default())
	r.users("oww")
	r.outputs("abc")
	r.sends(2, msg.Msg{Kind: msg.Bye})
	r.waits("closing", 2, 25)
	r.does(1, "floor", "kick 2", "give 2")
	r.outputs("def")
	r.joins(4, typist, "d")
	r.is("Cut", r.b.Cut(3), api.OK)
	r.is("End", r.b.End(0), api.OK)
	r.b.Tick()
	r.waits("closing", 2, 25)
	r.gets("closing", 2, "Data 0 abc", "Closed 0")
	r.gets("the others", 1, "Data 0 abc", "left 2", "Floor 1", "Denied kick 2", "Denied give 2", "Data 3 def", "joined 4 d", "left 3", "Exit 0")
}

// P14.2: shut, of a fresh one, of an open one, and where Closed just has room, or hasn't.
func TestShut(t *testing.T) {
	r := start(t, small)
	r.users("ow")
	r.connects(3)
	r.sends(3, msg.Msg{Kind: msg.Bye})
	r.gets("a fresh one, of which the others aren't told", 1)
	r.there("a fresh one", []int{1, 2, 3}, []int{1, 2}, 0)
	r.gets("a fresh one", 3, "Closed 4")
	r.there("a fresh one, written", []int{1, 2}, []int{1, 2}, 0)

	r.fill(small, 2, 11)
	r.sends(2, msg.Msg{Kind: msg.Bye})
	r.gets("an open one", 1, "left 2")
	r.waits("Closed just has room", 2, 220)
	got := r.reads(2)
	if got[len(got)-1] != "Closed 0" {
		t.Errorf("the last is %q", got[len(got)-1])
	}
	r.there("written", []int{1}, []int{1}, 0)

	r.joins(2, typist, "b")
	r.reads(1)
	r.reads(2)
	r.fill(small, 2, 10)
	r.sends(2, msg.Msg{Kind: msg.Bye})
	r.gets("Closed hasn't room: told once", 1, "left 2")
	r.waits("Closed hasn't room", 2, 210)
	r.there("Closed hasn't room", []int{1, 2}, []int{1}, 0)
	if slices.Contains(r.reads(2), "Closed 0") {
		t.Error("Closed is there without room")
	}
}

// P14.2: the holder is told as long as that turns.
func TestHolderTurnsAgain(t *testing.T) {
	r := start(t, small)
	r.users("oww")
	r.fill(small, 2, 10)
	r.does(1, "give 2")
	r.gets("the holder left", 1, "Floor 2", "left 2", "Floor 0")
	r.gets("the holder left", 3, "left 2", "Floor 2", "Floor 0")

	r = start(t, small)
	r.users("oww")
	r.does(1, "floor")
	r.does(3, "floor")
	r.reads(1)
	r.reads(2)
	r.reads(3)
	r.fill(small, 2, 10)
	r.does(1, "give 2")
	r.gets("the next holds it", 1, "Floor 2", "left 2", "Floor 3")
	r.gets("the next holds it", 3, "left 2", "Floor 2", "Floor 3")

	r = start(t, small)
	r.users("owww")
	r.does(2, "floor")
	r.does(4, "floor")
	r.does(3, "floor")
	for id := 1; id <= 4; id++ {
		r.reads(id)
	}
	r.fill(small, 3, 10)
	r.fill(small, 4, 32)
	r.is("Cut", r.b.Cut(2), api.OK)
	// 3 has no room for left 2, 4 for that and left 3, but not for Floor.
	r.gets("one behind the other left", 1, "left 2", "left 3", "Floor 4", "left 4", "Floor 0")
	r.there("one behind the other left", []int{1, 3, 4}, []int{1}, 0)

	r = start(t, small)
	r.users("oww")
	r.fill(small, 1, 10)
	r.does(1, "floor")
	r.gets("the first of all left", 2, "left 1", "Floor 1", "Floor 0")
	r.gets("the first of all left", 3, "left 1", "Floor 1", "Floor 0")
}

// P14.3: Data with the room of the queue less Reserve.
func TestData(t *testing.T) {
	r := start(t, small)
	r.users("o")
	r.outputs("0123456789abcdefghijklmnopqrstuvwxyz")
	r.waits("20 bytes", 1, 20)
	r.seen("9 of them the output's", 1, 9, true)
	b, _ := r.b.Write(1, 11)
	r.waits("room for Data of nothing", 1, 9)
	more, _ := r.b.Write(1, 1)
	r.waits("room for Data of one byte", 1, 20)
	r.seen("one byte more", 1, 10, true)
	rest, _ := r.b.Write(1, 20)
	if got := words(slices.Concat(b, more, rest)); !slices.Equal(got, []string{"Data 0 012345678", "Data 9 9"}) {
		t.Errorf("%q", got)
	}
	r.gets("9 more", 1, "Data 10 abcdefghi")
	r.gets("9 more", 1, "Data 19 jklmnopqr")
	r.gets("the last", 1, "Data 28 stuvwxyz")
	r.gets("nothing more", 1)

	r.sends(1, msg.Msg{Kind: msg.Ping})
	r.outputs("0123456789")
	r.waits("Pong takes of the room", 1, 20)
	r.gets("Pong takes of the room", 1, "Pong", "Data 36 0123")
	r.gets("the rest", 1, "Data 40 456789")
	r.fill(small, 1, 208)
	r.outputs("x")
	r.waits("no room but the Reserve", 1, 12)
	r.fill(small, 1, 0)
	r.waits("no room at all", 1, 220)
	r.role("no room at all", 1, floor.Owner, true)
	b, _ = r.b.Write(1, 211)
	r.waits("room for 11 bytes", 1, 9)
	more, _ = r.b.Write(1, 1)
	r.waits("room for 12 bytes", 1, 20)
	rest, _ = r.b.Write(1, 20)
	if got := words(slices.Concat(b, more, rest)); got[len(got)-1] != "Data 46 x" {
		t.Errorf("%q", got)
	}
}

// P14.3: pieces of the conf's Data, as many as there is room for.
func TestPieces(t *testing.T) {
	c := small
	c.Data, c.Queue = 4, 200+15+15+12
	r := start(t, c)
	r.users("o")
	r.outputs("0123456789")
	r.gets("pieces", 1, "Data 0 0123", "Data 4 4567", "Data 8 8")
	r.gets("the last", 1, "Data 9 9")

	c = conf.Default()
	c.Data, c.Queue, c.Log = 2042, 65536, 65536
	r = start(t, c)
	r.users("o")
	text := strings.Repeat("abc\n", 1200)
	r.outputs(text)
	r.gets("the longest pieces", 1, "Data 0 "+text[:2042], "Data 2042 "+text[2042:4084], "Data 4084 "+text[4084:])
}

// P14.3: a Gap where there is just room for it, and one byte less; of who is Evicted the others are told ahead of what they are sent.
func TestGap(t *testing.T) {
	c := small
	c.Log = 9
	for _, x := range []struct {
		wait int
		one  string
		two  []string
	}{
		{0, "Gap 9 13", []string{"Gap 9 13"}},
		{3, "Gap 9 13", []string{"Gap 9 13"}},
		{4, "Evicted", []string{"left 1", "Evicted"}},
		{20, "Evicted", []string{"left 1", "Evicted"}},
	} {
		r := start(t, c)
		r.users("ow")
		r.outputs("012345678")
		r.gets("all that is there", 2, "Data 0 012345678")
		first, _ := r.b.Write(1, 20-x.wait)
		r.outputs("abcdefghijklm")
		rest, _ := r.b.Write(1, 99)
		if got := words(slices.Concat(first, rest)); !slices.Equal(got, []string{"Data 0 012345678", x.one}) {
			t.Errorf("%d bytes wait: %q", x.wait, got)
		}
		r.gets("another", 2, x.two...)
	}
}

// P14.3: behind a Gap comes what is there, as far as there is room.
func TestBehindGap(t *testing.T) {
	c := small
	c.Log, c.Queue = 9, 200+17+13
	r := start(t, c)
	r.users("o")
	r.outputs("0123456789ab")
	r.gets("a Gap, and Data", 1, "Gap 0 3", "Data 3 34")
	r.gets("the rest", 1, "Data 5 56789ab")
	r.seen("all", 1, 12, true)
	r.outputs("0123456789ab")
	r.gets("no more strikes", 1, "Evicted")
	r.there("no more strikes", nil, nil, 0)
}

// P14.3: Evicted where there is just room for it in all of the queue, and where there isn't.
func TestEvicted(t *testing.T) {
	c := small
	c.Log, c.Strikes = 9, 0
	for _, x := range []struct{ room, waits int }{{220, 5}, {20, 205}, {19, 206}, {6, 219}, {5, 220}, {4, 216}, {1, 219}, {0, 220}} {
		r := start(t, c)
		r.users("o")
		r.fill(c, 1, x.room)
		r.outputs("0123456789")
		r.waits("Evicted", 1, x.waits)
		r.role("Evicted", 1, 0, false)
		r.seen("Evicted", 1, 0, false)
		got := r.reads(1)
		if is := got[len(got)-1] == "Evicted"; is != (x.room >= 5) {
			t.Errorf("room for %d: Evicted: %v", x.room, is)
		}
		r.there("written", nil, nil, 0)
	}
}

// P14.3: who holds the floor is told behind what is sent of the output, and by rising numbers all is done.
func TestSettleInOrder(t *testing.T) {
	c := conf.Default()
	c.Log, c.Data = 9, 20
	r := start(t, c)
	r.users("owww")
	r.does(2, "floor")
	r.does(3, "floor")
	for id := 1; id <= 4; id++ {
		r.reads(id)
	}
	r.fill(c, 2, 216)
	r.does(1, "limit 1")
	r.outputs("0123456789")
	r.gets("ahead of it", 1, "Gap 0 1", "Data 1 123456789", "left 2", "Floor 3")
	r.gets("behind it", 3, "left 2", "Gap 0 1", "Data 1 123456789", "Floor 3")
	r.gets("behind it", 4, "left 2", "Gap 0 1", "Data 1 123456789", "Floor 3")
	got := r.reads(2)
	if got[len(got)-1] != "Evicted" {
		t.Errorf("the holder: %q", got)
	}
}

// P14.3: who leaves because another does is sent nothing of the output any more; who left ahead of its turn, neither.
func TestLeftAmidOutput(t *testing.T) {
	c := small
	c.Log, c.Strikes = 9, 0
	r := start(t, c)
	r.users("owww")
	r.does(1, "limit 1")
	r.fill(c, 2, 10)
	r.fill(c, 4, 12)
	r.fill(c, 3, 5)
	r.outputs("0123456789")
	// 2 has no room for a Gap; of that 3 has no room to be told, of which 4 hasn't.
	r.gets("1", 1, "Gap 0 1", "left 2", "left 3", "left 4")
	for id, last := range map[int]string{2: "Evicted", 3: "Denied ", 4: "left 3"} {
		if got := r.reads(id); !strings.HasPrefix(got[len(got)-1], last) {
			t.Errorf("the last of %d: %q", id, got[len(got)-1])
		}
	}
	r.there("one is left", []int{1}, []int{1}, 0)
}

// P14.3: what is closing is there till its bytes are written.
func TestClosing(t *testing.T) {
	r := start(t, conf.Default())
	r.users("ow")
	r.sends(2, msg.Msg{Kind: msg.Ping}, msg.Msg{Kind: msg.Bye})
	r.there("16 bytes wait", []int{1, 2}, []int{1}, 0)
	r.is("Connect", r.b.Connect(2), api.ErrState)
	r.is("Bytes", r.b.Bytes(2, messages(msg.Msg{Kind: msg.Ping})), api.ErrState)
	r.is("Bytes of none", r.b.Bytes(2, nil), api.ErrState)
	r.b.Tick()
	r.outputs("abc")
	b, err := r.b.Write(2, 15)
	r.is("Write", err, api.OK)
	r.there("one byte waits", []int{1, 2}, []int{1}, 0)
	r.waits("one byte waits", 2, 1)
	for _, n := range []int{0, -1, math.MinInt} {
		none, err := r.b.Write(2, n)
		r.is("Write", err, api.OK)
		if len(none) > 0 {
			t.Errorf("Write of %d: %q", n, none)
		}
	}
	r.there("one byte waits still", []int{1, 2}, []int{1}, 0)
	last, err := r.b.Write(2, 1)
	r.is("Write", err, api.OK)
	if got := words(append(b, last...)); !slices.Equal(got, []string{"Pong", "Closed 0"}) {
		t.Errorf("%q", got)
	}
	r.there("all is written", []int{1}, []int{1}, 0)
	_, err = r.b.Write(2, 1)
	r.is("Write", err, api.ErrNone)
	r.is("Bytes", r.b.Bytes(2, nil), api.ErrNone)
	r.connects(2)
	r.there("there anew", []int{1, 2}, []int{1}, 0)
}

// P14.4: Connect: each error, and of whom there was.
func TestConnect(t *testing.T) {
	r := start(t, conf.Default())
	for _, id := range noNumbers {
		r.is(fmt.Sprint(id), r.b.Connect(id), api.ErrArg)
	}
	r.there("none", nil, nil, 0)
	var all []int
	for id := 16; id >= 1; id-- {
		r.connects(id)
		all = append([]int{id}, all...)
		r.there("fresh ones", all, nil, 0)
		r.is("there, and fresh", r.b.Connect(id), api.ErrState)
	}
	for id := 1; id <= 16; id++ {
		r.sends(id, hello(typist, 0, "n"))
		r.is("there, and open", r.b.Connect(id), api.ErrState)
	}
	r.role("the first of all", 1, floor.Owner, true)
	r.role("the last of all", 16, floor.Writer, true)
	r.there("all open", all, all, 0)
	for _, id := range noNumbers {
		r.is(fmt.Sprint(id), r.b.Connect(id), api.ErrArg)
	}
}

// P14.4: of a number that was there, and is no more, nothing is left: no bytes, no frame's half, no command's half, no ticks.
func TestConnectAnew(t *testing.T) {
	c := conf.Default()
	c.Idle = 3
	r := start(t, c)
	r.outputs("abc")
	r.connects(1)
	half := messages(hello(typist, 9, "a"))
	r.is("half", r.b.Bytes(1, half[:7]), api.OK)
	r.b.Tick()
	r.b.Tick()
	r.is("Cut", r.b.Cut(1), api.OK)
	r.connects(1)
	r.waits("anew", 1, 0)
	r.seen("anew", 1, 0, false)
	r.b.Tick()
	r.sends(1, hello(typist, 9, "a"))
	r.sends(1, keys(0, "\x1d:floor\n\x1d:rep"))
	r.waits("a user", 1, 22+11+14+11)
	r.is("Cut", r.b.Cut(1), api.OK)
	r.b.Tick()
	r.b.Tick()
	r.connects(1)
	r.b.Tick()
	r.b.Tick()
	r.there("two ticks of it", []int{1}, nil, 0)
	r.sends(1, hello(watcher, 0, "b"), keys(8, "lay 9\n"))
	r.gets("another user", 1, "Welcome 1 3 observer", "Floor 0", "Reject 8 3")
}

// P14.4: Bytes: frame by frame, in whatever pieces they come.
func TestPiecesOfBytes(t *testing.T) {
	b := messages(hello(typist, 0, "a"), msg.Msg{Kind: msg.Ping}, keys(5, "\x1d:floor\nxy"), msg.Msg{Kind: msg.Ping}, keys(6, "z\x1d:drop\n"), msg.Msg{Kind: msg.Bye})
	want := []string{"Welcome 1 0 owner", "Floor 0", "Pong", "Reject 5 4", "Floor 1", "Pong", "Floor 0", "Closed 0"}
	for n := 1; n <= len(b); n++ {
		r := start(t, conf.Default())
		r.connects(1)
		for piece := range slices.Chunk(b, n) {
			r.is("a piece", r.b.Bytes(1, piece), api.OK)
		}
		r.gets(fmt.Sprintf("in pieces of %d", n), 1, want...)
		r.drains(fmt.Sprintf("in pieces of %d", n), 9, "z")
	}
}

// P14.4: Bytes: ErrNone, ErrState, and what comes behind the frame by which it closes, or that is no frame.
func TestBytes(t *testing.T) {
	ping, bye := msg.Msg{Kind: msg.Ping}, msg.Msg{Kind: msg.Bye}
	bad := []byte{0, 0, 1, 9, 9}
	for _, c := range []struct {
		why  string
		data []byte
		want []string
	}{
		{"none", nil, nil},
		{"half a frame", messages(ping)[:4], nil},
		{"bytes of no frame", bad, []string{"Closed 1"}},
		{"a length that is none", []byte{0xff, 0xff}, []string{"Closed 1"}},
		{"bytes of no frame behind frames", append(messages(ping, ping), bad...), []string{"Pong", "Pong", "Closed 1"}},
		{"bytes of no frame behind the one by which it closes", append(messages(ping, bye), bad...), []string{"Pong", "Closed 0"}},
		{"frames behind bytes of no frame", append(append(messages(ping), bad...), messages(ping)...), []string{"Pong", "Closed 1"}},
		{"frames behind the one by which it closes", messages(bye, ping, keys(3, "x\x1d:list\n"), bye), []string{"Closed 0"}},
		{"frames behind one that is no message", slices.Concat(framed(99, ""), messages(ping, bye)), []string{"Closed 4"}},
	} {
		r := start(t, conf.Default())
		r.users("ow")
		r.is(c.why, r.b.Bytes(2, c.data), api.OK)
		r.gets(c.why, 2, c.want...)
		if closes := len(c.want) > 0; closes {
			r.there(c.why, []int{1}, []int{1}, 0)
			r.gets(c.why, 1, "left 2")
			r.is(c.why, r.b.Bytes(2, nil), api.ErrNone)
		} else {
			r.there(c.why, []int{1, 2}, []int{1, 2}, 0)
		}
	}

	r := start(t, conf.Default())
	r.users("o")
	r.connects(2)
	r.is("a fresh one", r.b.Bytes(2, bad), api.OK)
	r.gets("a fresh one", 2, "Closed 1")
	r.gets("of which nobody is told", 1)
	r.connects(2)
	r.is("Hello, and bytes of no frame", r.b.Bytes(2, append(messages(hello(watcher, 0, "b")), bad...)), api.OK)
	r.gets("Hello, and bytes of no frame", 2, "Welcome 2 0 observer", "Floor 0", "Closed 1")
	r.gets("Hello, and bytes of no frame", 1, "joined 2 b", "left 2")
}

// P14.4: Bytes: behind each message the holder is told.
func TestHolderBehindEachMessage(t *testing.T) {
	r := start(t, conf.Default())
	r.users("ow")
	r.sends(2, keys(0, command("floor")), msg.Msg{Kind: msg.Ping}, keys(0, command("drop")), msg.Msg{Kind: msg.Ping})
	r.gets("who does it", 2, "Floor 2", "Pong", "Floor 0", "Pong")
	r.sends(2, keys(0, command("floor")), msg.Msg{Kind: msg.Bye}, msg.Msg{Kind: msg.Ping})
	r.gets("another", 1, "Floor 2", "Floor 0", "Floor 2", "left 2", "Floor 0")
	r.sends(1, keys(0, command("floor")), keys(0, command("revoke")), keys(0, command("floor")))
	r.gets("another", 1, "Floor 1", "Floor 0", "Floor 1")

	r = start(t, small)
	r.users("oww")
	r.does(1, "floor")
	r.reads(1)
	r.reads(2)
	r.reads(3)
	r.fill(small, 1, 4)
	r.sends(1, msg.Msg{Kind: msg.Ping}, msg.Msg{Kind: msg.Ping})
	r.gets("the holder has no room for Pong", 2, "left 1", "Floor 0")
}

// P14.4: Write: n below 0, 0, above all that waits; in whatever pieces, the bytes are the same.
func TestWrite(t *testing.T) {
	r := start(t, conf.Default())
	r.users("o")
	r.outputs("abc")
	for _, n := range []int{math.MinInt, -1, 0} {
		b, err := r.b.Write(1, n)
		r.is("Write", err, api.OK)
		if len(b) > 0 {
			t.Errorf("Write of %d: %q", n, b)
		}
	}
	r.waits("none is written", 1, 14)
	var all []byte
	for n := range 5 {
		b, err := r.b.Write(1, n)
		r.is("Write", err, api.OK)
		if len(b) != n {
			t.Errorf("Write of %d: %d bytes", n, len(b))
		}
		all = append(all, b...)
	}
	r.waits("10 are written", 1, 4)
	b, err := r.b.Write(1, math.MaxInt)
	r.is("Write", err, api.OK)
	if got := words(append(all, b...)); !slices.Equal(got, []string{"Data 0 abc"}) {
		t.Errorf("%q", got)
	}
	r.waits("all are written", 1, 0)
	b, err = r.b.Write(1, 5)
	r.is("Write", err, api.OK)
	if len(b) > 0 {
		t.Errorf("none waits: %q", b)
	}
	r.connects(2)
	b, err = r.b.Write(2, 5)
	r.is("Write of a fresh one", err, api.OK)
	if len(b) > 0 {
		t.Errorf("none waits: %q", b)
	}
	r.there("a fresh one whose queue is empty is there", []int{1, 2}, []int{1}, 0)
	for _, id := range append(noNumbers, 3, 16) {
		b, err := r.b.Write(id, 5)
		r.is("Write of none", err, api.ErrNone)
		if len(b) > 0 {
			t.Errorf("of none: %q", b)
		}
	}
}

// P14.4: Cut, of who is fresh, open, the holder, closing, and isn't there.
func TestCut(t *testing.T) {
	r := start(t, conf.Default())
	r.users("oww")
	r.connects(4)
	r.is("a fresh one", r.b.Cut(4), api.OK)
	r.gets("a fresh one", 1)
	r.there("a fresh one", []int{1, 2, 3}, []int{1, 2, 3}, 0)
	r.is("no more", r.b.Cut(4), api.ErrNone)
	r.does(2, "floor")
	r.does(3, "floor")
	r.is("the holder, for whom bytes wait", r.b.Cut(2), api.OK)
	r.gets("the holder", 1, "Floor 2", "left 2", "Floor 3")
	r.there("the holder", []int{1, 3}, []int{1, 3}, 3)
	r.sends(3, msg.Msg{Kind: msg.Bye})
	r.gets("closing", 1, "left 3", "Floor 0")
	r.there("closing", []int{1, 3}, []int{1}, 0)
	r.is("closing", r.b.Cut(3), api.OK)
	r.gets("closing: told once", 1)
	r.there("closing", []int{1}, []int{1}, 0)
	r.is("no more", r.b.Cut(3), api.ErrNone)
	for _, id := range append(noNumbers, 2, 16) {
		r.is("not there", r.b.Cut(id), api.ErrNone)
	}
	r.is("the last", r.b.Cut(1), api.OK)
	r.there("none", nil, nil, 0)
}

// P14.4: Output: to the ring, and to the spot; settled; ErrState behind End.
func TestOutput(t *testing.T) {
	r := start(t, conf.Default())
	r.users("o")
	for _, text := range []string{"", "ab", "", "\n", "cde\x1b", "[A!"} {
		r.outputs(text)
	}
	if column, row := r.b.Spot(); column != 6 || row != 0 {
		t.Errorf("Spot %d, %d", column, row)
	}
	r.gets("each at once", 1, "Data 0 ab", "Data 2 \n", "Data 3 cde\x1b", "Data 7 [A!")
	r.is("End", r.b.End(1), api.OK)
	for _, text := range []string{"", "more"} {
		r.is("behind End", r.b.Output([]byte(text)), api.ErrState)
	}
	r.gets("nothing more", 1, "Exit 1")
	if column, row := r.b.Spot(); column != 6 || row != 0 {
		t.Errorf("behind End: Spot %d, %d", column, row)
	}
	r.does(1, "replay 3")
	r.gets("what came ahead of End is there", 1, "Data 7 [A!")
}

// P14.4: Drain, of n below 0, 0, and above all that waits; behind End.
func TestDrain(t *testing.T) {
	r := start(t, conf.Default())
	r.users("o")
	r.does(1, "floor")
	r.sends(1, keys(0, "ab"), keys(1, "cdefgh"))
	for _, n := range []int{math.MinInt, -1, 0} {
		r.drains("none", n, "")
	}
	r.drains("one", 1, "a")
	r.drains("three", 3, "bcd")
	r.drains("the rest", math.MaxInt, "efgh")
	r.drains("none is left", 5, "")
	r.sends(1, keys(2, "xyz"))
	r.is("End", r.b.End(0), api.OK)
	r.drains("behind End", 5, "")
	r.sends(1, keys(3, "xyz"))
	r.drains("behind End", 5, "")
	r.gets("behind End", 1, "Floor 1", "Exit 0", "Reject 3 1")
}

// P14.4: End's codes, and which error comes first; one that is refused turns nothing.
func TestEnd(t *testing.T) {
	for _, code := range []int64{0, 1, 7, 254, 255} {
		r := start(t, conf.Default())
		r.users("ow")
		for _, wrong := range []int64{math.MinInt64, -1, 256, 257, 1 << 32, math.MaxInt64} {
			r.is(fmt.Sprint(wrong), r.b.End(wrong), api.ErrArg)
		}
		r.outputs("x")
		r.is(fmt.Sprint(code), r.b.End(code), api.OK)
		r.is("the second", r.b.End(code), api.ErrState)
		r.is("the second, of a wrong code", r.b.End(-1), api.ErrState)
		exit := fmt.Sprintf("Exit %d", code)
		r.gets("told", 1, "Data 0 x", exit)
		r.gets("told", 2, "Data 0 x", exit)
		r.joins(3, watcher, "c")
		r.gets("who comes behind it", 3, "Welcome 3 1 observer", "Floor 0", exit)
	}
}

// P14.4: idle ticks: none of them goes by what somebody else sends, all by one byte, none by no bytes.
func TestIdle(t *testing.T) {
	c := conf.Default()
	c.Idle = 3
	r := start(t, c)
	r.joins(1, typist, "a")
	r.joins(2, typist, "b")
	r.connects(3)
	r.reads(1)
	r.reads(2)
	half := messages(msg.Msg{Kind: msg.Ping})
	r.b.Tick()
	r.b.Tick()
	r.there("two ticks", []int{1, 2, 3}, []int{1, 2}, 0)
	r.is("one byte", r.b.Bytes(1, half[:1]), api.OK)
	r.is("no bytes", r.b.Bytes(2, nil), api.OK)
	r.is("no bytes", r.b.Bytes(3, []byte{}), api.OK)
	r.b.Tick()
	r.gets("of two all is over", 1, "left 2")
	r.gets("an open one", 2, "Closed 6")
	r.gets("a fresh one", 3, "Closed 6")
	r.there("of two all is over", []int{1}, []int{1}, 0)
	r.b.Tick()
	r.is("the rest", r.b.Bytes(1, half[1:]), api.OK)
	r.b.Tick()
	r.b.Tick()
	r.gets("two ticks behind that", 1, "Pong")
	r.sends(1, msg.Msg{Kind: msg.Bye})
	r.b.Tick()
	r.b.Tick()
	r.b.Tick()
	r.gets("what is closing isn't shut again", 1, "Closed 0")
}

// P14.4: of an Idle of 1 each tick shuts; of 0 none does.
func TestIdleBounds(t *testing.T) {
	for _, idle := range []int{0, 1, 2, 1000} {
		c := conf.Default()
		c.Idle = idle
		r := start(t, c)
		r.users("ow")
		if idle == 0 {
			for range 1100 {
				r.b.Tick()
			}
			r.there("Idle 0", []int{1, 2}, []int{1, 2}, 0)
			continue
		}
		for range idle - 1 {
			r.b.Tick()
		}
		r.there(fmt.Sprintf("Idle %d, a tick less", idle), []int{1, 2}, []int{1, 2}, 0)
		r.b.Tick()
		r.gets("both at once, by rising numbers", 2, "left 1", "Closed 6")
		r.gets("both at once, by rising numbers", 1, "Closed 6")
	}
}

// P14.4: a Tick that moves the floor: the table's comes first, then who is idle, and then the holder is told.
func TestTickMovesFloor(t *testing.T) {
	c := conf.Default()
	c.Lease, c.Idle = 2, 2
	r := start(t, c)
	r.users("oww")
	r.does(1, "floor")
	r.does(2, "floor")
	r.b.Tick()
	r.gets("the first", 3, "Floor 1")
	r.sends(1, msg.Msg{Kind: msg.Ping})
	r.sends(3, msg.Msg{Kind: msg.Ping})
	r.b.Tick()
	// 2 held the floor already when it was shut: then nobody waits.
	r.gets("the second", 3, "Pong", "left 2", "Floor 0")
	r.there("the second", []int{1, 2, 3}, []int{1, 3}, 0)

	c.Idle = 0
	r = start(t, c)
	r.users("oww")
	for id := 1; id <= 3; id++ {
		r.does(id, "floor")
	}
	for range 8 {
		r.b.Tick()
	}
	r.gets("who waits holds it behind each lease", 2, "Floor 1", "Floor 2", "Floor 3")
	r.there("the last keeps it", []int{1, 2, 3}, []int{1, 2, 3}, 3)
}

// P14.5: a first message that is no Hello, of each kind, and a frame that is none.
func TestFirstMessage(t *testing.T) {
	var first [][]byte
	for kind := msg.Keys; kind <= msg.Exit; kind++ {
		first = append(first, messages(msg.Msg{Kind: kind}))
	}
	body := string(messages(hello(typist, 0, "a"))[3:16])
	first = append(first,
		messages(keys(5, "a")), messages(msg.Msg{Kind: msg.Welcome, A: 5, Text: "a"}),
		framed(0, ""), framed(0, body), framed(2, body[:5]), framed(16, ""), framed(255, ""),
		framed(1, ""), framed(1, body[:11]), framed(1, body+strings.Repeat("n", 20)),
		framed(1, "\xff"+body[1:]), framed(1, body[:6]+"\x01\x00\x00\x00\x00\x01a"))
	for _, b := range first {
		r := start(t, conf.Default())
		r.users("o")
		r.connects(2)
		r.is("Bytes", r.b.Bytes(2, b), api.OK)
		r.is("it is closing", r.b.Bytes(2, nil), api.ErrState)
		r.gets(fmt.Sprintf("%x", b), 2, "Closed 4")
		r.gets("nobody is told", 1)
		r.there("it is closed", []int{1}, []int{1}, 0)
	}
}

// P14.5: A's bits, and Version's other values.
func TestHelloBits(t *testing.T) {
	for _, a := range []int64{4, 5, 6, 7} {
		r := start(t, conf.Default())
		r.outputs("ab\ncd\nef")
		r.connects(9)
		r.sends(9, hello(a, 7, "me"))
		at, role := int64(1), "observer"
		if a&2 != 0 {
			at = 3
		}
		if a&1 != 0 {
			role = "owner"
		}
		r.gets(fmt.Sprint(a), 9, fmt.Sprintf("Welcome 9 %d %s", at, role), "Floor 0", fmt.Sprintf("Data %d %s", at, "ab\ncd\nef"[at:]))
	}
	for _, a := range []int64{0, 1, 2, 3, 8, 9, 10, 11, 12, 16, 20, 21, 1 << 20, 1<<32 + 5, 1<<40 - 3, 1 << 40} {
		r := start(t, conf.Default())
		r.users("o")
		r.connects(2)
		r.sends(2, hello(a, 0, "b"))
		r.gets(fmt.Sprint(a), 2, "Closed 2")
		r.gets("nobody is told", 1)
	}
}

// P14.5: back: none, some, all, and more than is there.
func TestHelloBack(t *testing.T) {
	c := conf.Default()
	c.Log = 6
	for _, x := range []struct {
		a, back, at int64
	}{{4, 0, 9}, {4, 1, 8}, {4, 5, 4}, {4, 6, 3}, {4, 7, 3}, {4, 1 << 40, 3}, {6, 0, 9}, {6, 1, 9}, {6, 3, 6}, {6, 4, 6}, {6, 6, 6}, {6, 1 << 40, 6}} {
		r := start(t, c)
		r.outputs("ab\ncd\nefg")
		r.connects(1)
		r.sends(1, hello(x.a, x.back, "a"))
		want := []string{fmt.Sprintf("Welcome 1 %d observer", x.at), "Floor 0"}
		if x.at < 9 {
			want = append(want, fmt.Sprintf("Data %d %s", x.at, "ab\ncd\nefg"[x.at:]))
		}
		r.gets(fmt.Sprintf("%+v", x), 1, want...)
	}
}

// P14.5: each bound of the name's bytes, wherever they stand; of how many bytes it may be.
func TestNames(t *testing.T) {
	r := start(t, conf.Default())
	r.users("o")
	tells := func(name string, is bool) {
		t.Helper()
		r.connects(2)
		r.sends(2, hello(typist, 0, name))
		if !is {
			r.gets(fmt.Sprintf("%q", name), 2, "Closed 3")
			r.gets("nobody is told", 1)
			return
		}
		r.gets(fmt.Sprintf("%q", name), 2, "Welcome 2 0 writer", "Floor 0")
		r.does(2, "list")
		r.gets("list", 2, "1 owner A", "2 writer "+name)
		r.gets("joined", 1, "joined 2 "+name)
		r.is("Cut", r.b.Cut(2), api.OK)
		r.gets("left", 1, "left 2")
	}
	tells("", false)
	for c := range 256 {
		sign, is := string([]byte{byte(c)}), c >= 0x21 && c <= 0x7e
		tells(sign, is)
		tells(sign+"bc", is)
		tells("a"+sign+"c", is)
		tells("ab"+sign, is)
	}
	for n := 1; n <= 20; n++ {
		tells(strings.Repeat("n", n), true)
	}
}

// P14.5: which reason comes first.
func TestFirstReason(t *testing.T) {
	r := start(t, conf.Default())
	for _, x := range []struct {
		why  string
		m    msg.Msg
		want string
	}{
		{"no Hello, a version, a name", msg.Msg{Kind: msg.Welcome, A: 5, Text: "a"}, "Closed 4"},
		{"no Hello, no version, no name", msg.Msg{Kind: msg.Welcome, A: 8}, "Closed 4"},
		{"a Hello, no version, no name", hello(8, 0, ""), "Closed 2"},
		{"a Hello, no version, a name that is none", hello(1, 0, "a b"), "Closed 2"},
		{"a Hello, no version, a name", hello(3, 0, "a"), "Closed 2"},
		{"a Hello, a version, no name", hello(4, 0, ""), "Closed 3"},
	} {
		r.connects(7)
		r.sends(7, x.m)
		r.gets(x.why, 7, x.want)
	}
}

// P14.5: who comes: an Observer; else an Owner, if nobody who is there is one, whoever was.
func TestFirstRole(t *testing.T) {
	r := start(t, conf.Default())
	for _, x := range []struct {
		id   int
		a    int64
		want floor.Role
	}{{5, watcher, floor.Observer}, {9, watcherByLine, floor.Observer}, {3, typistByLine, floor.Owner}, {1, typist, floor.Writer}, {2, watcher, floor.Observer}, {16, typist, floor.Writer}} {
		r.joins(x.id, x.a, "n")
		r.role("who comes", x.id, x.want, true)
	}
	r.is("Cut of the owner", r.b.Cut(3), api.OK)
	r.role("who is there stays as they are", 1, floor.Writer, true)
	r.joins(4, watcher, "n")
	r.role("none who types", 4, floor.Observer, true)
	r.joins(6, typist, "n")
	r.role("who comes then", 6, floor.Owner, true)
	r.joins(3, typist, "n")
	r.role("behind that", 3, floor.Writer, true)
	r.does(6, "write 6")
	r.role("an owner no more", 6, floor.Writer, true)
	r.joins(7, typist, "n")
	r.role("then", 7, floor.Owner, true)
	r.sends(7, msg.Msg{Kind: msg.Bye})
	r.joins(8, typist, "n")
	r.role("while the owner is closing", 8, floor.Owner, true)
}

// P14.5: all are told ahead of what comes of it: who leaves by that may have been the owner, and the holder.
func TestJoinedFirst(t *testing.T) {
	r := start(t, small)
	r.users("oww")
	r.does(1, "floor")
	for id := 1; id <= 3; id++ {
		r.reads(id)
	}
	r.fill(small, 1, 14)
	r.connects(4)
	r.sends(4, hello(typist, 0, "d"), msg.Msg{Kind: msg.Ping})
	r.gets("the others", 2, "left 1", "joined 4 d", "Floor 0")
	r.gets("who comes isn't told of it, and becomes the owner", 4, "Welcome 4 0 owner", "Floor 1", "Floor 0", "Pong")
	r.there("the owner left", []int{1, 2, 3, 4}, []int{2, 3, 4}, 0)

	r = start(t, small)
	r.users("ow")
	r.does(1, "floor")
	r.reads(1)
	r.fill(small, 1, 14)
	r.connects(3)
	r.is("Bytes", r.b.Bytes(3, append(messages(hello(watcher, 0, "c")), 0xff, 0xff)), api.OK)
	r.gets("bytes of no frame behind it", 3, "Welcome 3 0 observer", "Floor 1", "Floor 0", "Closed 1")
}

// P14.5: Welcome, Floor and Exit in that order, and the output behind them.
func TestWelcome(t *testing.T) {
	r := start(t, conf.Default())
	r.users("o")
	r.does(1, "floor")
	r.outputs("abc")
	r.connects(16)
	r.sends(16, hello(watcher, 2, "zed"), msg.Msg{Kind: msg.Ping})
	r.gets("while it runs", 16, "Welcome 16 1 observer", "Floor 1", "Pong", "Data 1 bc")
	r.is("End", r.b.End(0), api.OK)
	r.connects(2)
	r.sends(2, hello(typist, 2, "bob"), msg.Msg{Kind: msg.Ping})
	r.gets("it has ended", 2, "Welcome 2 1 writer", "Floor 1", "Exit 0", "Pong", "Data 1 bc")
	r.gets("the others", 1, "Floor 1", "Data 0 abc", "joined 16 zed", "Exit 0", "joined 2 bob")
}

// P14.5: of an open one: Ping, Bye, and any other, each kind, and a frame that is none.
func TestOpenMessages(t *testing.T) {
	other := [][]byte{messages(hello(typist, 0, "a")), framed(0, ""), framed(16, ""), framed(255, "x"), framed(3, "x"), framed(4, "x"), framed(2, "short"), framed(2, "\xff\xff\xff\xff\xff\xff")}
	for kind := msg.Welcome; kind <= msg.Exit; kind++ {
		other = append(other, messages(msg.Msg{Kind: kind}))
	}
	for _, b := range other {
		r := start(t, conf.Default())
		r.users("ow")
		r.is("Bytes", r.b.Bytes(2, append(messages(msg.Msg{Kind: msg.Ping}), b...)), api.OK)
		r.gets(fmt.Sprintf("%x", b), 2, "Pong", "Closed 4")
		r.gets("another", 1, "left 2")
	}
	r := start(t, conf.Default())
	r.users("ow")
	r.sends(2, msg.Msg{Kind: msg.Ping}, msg.Msg{Kind: msg.Ping})
	r.gets("Ping", 2, "Pong", "Pong")
	r.gets("of Ping another isn't told", 1)
	r.sends(2, msg.Msg{Kind: msg.Bye})
	r.gets("Bye", 2, "Closed 0")
	r.gets("Bye", 1, "left 2")
}

// P14.6: keystrokes and commands in one Keys: all keystrokes first, whole or not at all.
func TestKeys(t *testing.T) {
	c := conf.Default()
	c.Input = 5
	r := start(t, c)
	r.users("ow")
	r.sends(1, keys(3, "a\x1d:floor\nb"))
	r.gets("keystrokes ahead of the floor", 1, "Reject 3 4", "Floor 1")
	r.drains("rejected", 9, "")
	r.sends(1, keys(4, "a\x1d:drop\nb\x1d\x1d\x1dxc"))
	r.gets("keystrokes of the holder, who drops it", 1, "Floor 0")
	r.drains("taken", 9, "ab\x1dc")
	r.does(1, "floor")
	r.sends(1, keys(5, "12345"), keys(6, "6"), keys(7, ""), keys(8, "\x1d"), keys(9, "z"))
	r.gets("full, nothing, Escape and any other byte", 1, "Floor 1", "Reject 6 5")
	r.drains("full", 4, "1234")
	r.sends(1, keys(1<<40, "67890"), keys(0, "6789"))
	r.gets("A is the Keys'", 1, "Reject 1099511627776 5")
	r.drains("in order", 99, "56789")
	r.sends(1, keys(0, "\x1d:dr"), keys(1, "op\nk"))
	r.gets("a command in two of them", 1, "Floor 0")
	r.drains("taken ahead of it", 9, "k")
	r.sends(2, keys(1, command("floor")+command("drop")))
	r.gets("no keystrokes are rejected", 2, "Floor 1", "Floor 0", "Floor 1", "Floor 0", "Floor 2", "Floor 0")
}

// P14.6: each Reject's reason that there is for a user, and which comes first.
func TestRejects(t *testing.T) {
	c := conf.Default()
	c.Input = 2
	r := start(t, c)
	r.users("owb")
	r.does(2, "floor")
	r.reads(2)
	for id, want := range map[int]string{1: "Reject 8 4", 2: "Reject 8 5", 3: "Reject 8 3"} {
		r.sends(id, keys(8, "abc"))
		if got := r.reads(id); !slices.Equal(got[len(got)-1:], []string{want}) {
			t.Errorf("%d: %q, not %q", id, got, want)
		}
	}
	r.sends(2, keys(8, "ab"))
	r.gets("fine", 2)
	r.is("End", r.b.End(0), api.OK)
	for id := 1; id <= 3; id++ {
		r.sends(id, keys(8, "abc"))
		if got := r.reads(id); !slices.Equal(got, []string{"Exit 0", "Reject 8 1"}) {
			t.Errorf("%d, behind End: %q", id, got)
		}
	}
	r.drains("behind End", 9, "")
}

// P14.6: commands that are none are Denied, each by what it is.
func TestNoCommands(t *testing.T) {
	long := strings.Repeat("l", 80)
	for _, line := range []string{"", " ", "x", "Floor", "floor ", " floor", "floor 1", "list\r", "give", "give ", "give 01", "give +1", "give -1", "give 1 ", "give  1", "give one", "kick", "write", "watch", "replay", "replay -1", "replay 1099511627777", "limit", "limit 9223372036854775808", "revoke 0", "\x00", "\xff", long} {
		r := start(t, conf.Default())
		r.users("ow")
		r.does(1, line)
		r.gets(line, 1, "Denied "+line)
		r.gets("another", 2)
		r.there(line, []int{1, 2}, []int{1, 2}, 0)
	}
	r := start(t, conf.Default())
	r.users("o")
	r.does(1, long+"l", strings.Repeat("list", 30))
	r.gets("one of more than MaxLine bytes", 1, "Denied ", "Denied ")
}

// P14.6: each command about a connection, by each role, on oneself, on others, on a fresh one, a closing one, and none.
func TestCommandsAboutUsers(t *testing.T) {
	targets := []string{"0", "1", "2", "3", "4", "5", "6", "16", "17", "257", "4294967297", "1099511627776"}
	for _, word := range []string{"give", "kick", "write", "watch"} {
		for by, may := range map[int]bool{1: true, 2: false, 3: false} {
			for n, target := range targets {
				line := word + " " + target
				why := fmt.Sprintf("%s by %d", line, by)
				r := start(t, conf.Default())
				r.users("owb")
				r.connects(4)
				r.connects(5)
				r.sends(5, msg.Msg{Kind: msg.Bye})
				r.does(by, line)
				r.aboutUser(why, word, line, by, n, may && n >= 1 && n <= 3)
			}
		}
	}
}

// aboutUser holds what came of a command about the n-th connection against what must.
func (r rig) aboutUser(why, word, line string, by, n int, done bool) {
	r.Helper()
	roles := map[int]floor.Role{1: floor.Owner, 2: floor.Writer, 3: floor.Observer}
	users, holder, conns := []int{1, 2, 3}, 0, []int{1, 2, 3, 4, 5}
	var want []string
	switch {
	case !done || word == "give" && n == 3:
		want = []string{"Denied " + line}
	case word == "give":
		holder = n
		want = []string{fmt.Sprintf("Floor %d", n)}
	case word == "kick":
		users = slices.DeleteFunc(users, func(id int) bool { return id == n })
		delete(roles, n)
		want = []string{fmt.Sprintf("left %d", n)}
		if n == by {
			want = []string{"Closed 5"}
		}
	case word == "write":
		roles[n] = floor.Writer
	case word == "watch":
		roles[n] = floor.Observer
	}
	r.there(why, conns, users, holder)
	for id := 1; id <= 3; id++ {
		role, ok := roles[id]
		r.role(why, id, role, ok)
	}
	r.gets(why, by, want...)
	if word == "kick" && done && n != by {
		r.gets(why, n, "Closed 5")
	}
	r.waits(why, 4, 0)
	r.waits(why, 5, 11)
}

// P14.6: give: to who waits, from who holds it, and to who holds it; watch: the holder, and who waits, lose it; write doesn't.
func TestGiveAndWatch(t *testing.T) {
	r := start(t, conf.Default())
	r.users("owww")
	r.does(2, "floor")
	r.does(3, "floor")
	r.does(4, "floor")
	r.does(1, "give 4", "give 4", "give 1", "give 3", "write 3", "watch 3", "revoke")
	r.gets("the owner", 1, "Floor 2", "Floor 4", "Denied give 4", "Floor 1", "Floor 3", "Floor 0", "Denied revoke")
	r.does(3, "floor")
	r.gets("an observer now", 3, "Floor 2", "Floor 4", "Floor 1", "Floor 3", "Floor 0", "Denied floor")
	r.does(2, "floor")
	r.does(4, "floor")
	r.does(1, "watch 4", "revoke")
	r.gets("the owner", 1, "Floor 2", "Floor 0")
	r.does(1, "write 3")
	r.does(3, "floor")
	r.gets("a writer anew", 1, "Floor 3")
	r.does(1, "floor", "watch 1", "write 1")
	r.gets("by oneself", 1, "Denied write 1")
	r.there("by oneself", []int{1, 2, 3, 4}, []int{1, 2, 3, 4}, 3)
	r.does(3, "drop")
	r.gets("who was to wait doesn't", 1, "Floor 0")
}

// P14.6: floor, drop and revoke, by each role.
func TestFloorCommands(t *testing.T) {
	r := start(t, conf.Default())
	r.users("owbw")
	for id := 1; id <= 4; id++ {
		r.does(id, "drop", "revoke")
		r.gets("nobody holds it", id, "Denied drop", "Denied revoke")
	}
	r.does(3, "floor")
	r.gets("an observer", 3, "Denied floor")
	r.does(2, "floor", "floor", "revoke")
	r.gets("a writer", 2, "Floor 2", "Denied floor", "Denied revoke")
	r.does(4, "floor", "floor")
	r.gets("who waits", 4, "Floor 2", "Denied floor")
	r.does(4, "drop", "drop", "floor")
	r.gets("who waits no more, and then does", 4, "Denied drop")
	r.does(3, "drop", "revoke")
	r.gets("an observer", 3, "Floor 2", "Denied drop", "Denied revoke")
	r.does(1, "revoke", "floor", "revoke", "revoke", "floor", "revoke")
	r.gets("an owner", 1, "Floor 2", "Floor 4", "Floor 1", "Floor 0", "Floor 1", "Floor 0")
}

// P14.6: list, by each role; the holder's star; who is fresh, or closing, isn't told.
func TestList(t *testing.T) {
	r := start(t, conf.Default())
	r.joins(9, watcher, "nine")
	r.joins(3, typist, "*")
	r.joins(16, typist, "n-is-as-long-as-it-i")
	r.connects(1)
	r.connects(5)
	r.sends(5, msg.Msg{Kind: msg.Bye})
	r.joins(2, typist, "two")
	r.sends(2, msg.Msg{Kind: msg.Bye})
	for _, id := range []int{3, 9, 16} {
		r.reads(id)
	}
	lines := []string{"3 owner *", "9 observer nine", "16 writer n-is-as-long-as-it-i"}
	for _, id := range []int{3, 9} {
		r.does(id, "list")
		r.gets("nobody holds it", id, lines...)
	}
	r.does(3, "floor", "list", "write 9", "give 9", "list")
	r.gets("first one holds it, then another", 3, "Floor 3", "3 owner * *", lines[1], lines[2], "Floor 9", lines[0], "9 writer nine *", lines[2])
}

// P14.6: detach, and kick of oneself: the commands behind it aren't done any more, nor is anything told of them.
func TestCommandsBehindClosing(t *testing.T) {
	for line, want := range map[string]string{"detach": "Closed 0", "kick 2": "Closed 5"} {
		r := start(t, conf.Default())
		r.users("bow")
		r.does(2, "floor", line, "list", "give 3", "limit 0", "nothing", line)
		r.gets(line, 2, "Floor 2", want)
		r.gets(line, 1, "Floor 2", "left 2", "Floor 0")
		r.there(line, []int{1, 3}, []int{1, 3}, 0)
	}
	r := start(t, conf.Default())
	r.users("owb")
	r.does(3, "detach")
	r.gets("an observer", 3, "Closed 0")
	r.does(2, "detach")
	r.gets("a writer", 2, "left 3", "Closed 0")
	r.gets("detach", 1, "left 3", "left 2")

	r = start(t, small)
	r.users("ow")
	r.fill(small, 1, 4)
	r.sends(1, keys(0, "k"+command("kick 2")))
	r.gets("no room for Reject", 2, "left 1")
	r.fill(small, 2, 4)
	r.does(2, "x", "floor")
	r.there("no room for Denied", []int{1, 2}, nil, 0)
}

// P14.6: kick, of who has no room for Closed, of the holder, and of two behind each other.
func TestKick(t *testing.T) {
	r := start(t, small)
	r.users("owww")
	r.does(2, "floor")
	for id := 1; id <= 4; id++ {
		r.reads(id)
	}
	r.fill(small, 2, 10)
	r.does(1, "kick 2", "kick 2", "kick 4")
	r.gets("who has no room isn't sent Closed", 1, "left 2", "Floor 0", "Denied kick 2", "left 4")
	r.gets("another", 3, "left 2", "Floor 0", "left 4")
	if slices.Contains(r.reads(2), "Closed 5") {
		t.Error("Closed is there without room")
	}
	r.gets("who has room", 4, "left 2", "Floor 0", "Closed 5")
	r.there("two are kicked", []int{1, 3}, []int{1, 3}, 0)
}

// P14.6: replay at its bounds, by each role; it is sent when all settles, and turns no Strikes.
func TestReplay(t *testing.T) {
	c := conf.Default()
	c.Log, c.Strikes = 5, 1
	for _, x := range []struct{ n, at int64 }{{0, 8}, {1, 7}, {4, 4}, {5, 3}, {6, 3}, {1 << 40, 3}} {
		for id := 1; id <= 3; id++ {
			r := start(t, c)
			r.users("owb")
			r.outputs("abc")
			r.outputs("de\nfg")
			r.reads(id)
			r.sends(id, keys(0, command(fmt.Sprintf("replay %d", x.n))), msg.Msg{Kind: msg.Ping})
			want := []string{"Pong"}
			if x.at < 8 {
				want = append(want, fmt.Sprintf("Data %d %s", x.at, "abcde\nfg"[x.at:]))
			}
			r.gets(fmt.Sprintf("replay %d", x.n), id, want...)
			r.seen("all", id, 8, true)
		}
	}
	r := start(t, c)
	r.users("o")
	r.outputs("0123456789")
	r.gets("a strike", 1, "Gap 0 5", "Data 5 56789")
	r.does(1, "replay 5", "replay 2")
	r.gets("the last of two", 1, "Data 8 89")
	r.outputs("0123456789")
	r.gets("no strike more may be", 1, "Evicted")
}

// P14.6: limit at its bounds: it holds at once, for all, whatever the conf says.
func TestLimit(t *testing.T) {
	c := conf.Default()
	c.Log, c.Strikes = 4, 3
	gaps := func(r rig, id int) int {
		n := 0
		for range 12 {
			r.outputs("01234")
			if _, ok := r.b.Role(id); !ok {
				break
			}
			n++
		}
		return n
	}
	for n := range int64(10) {
		r := start(t, c)
		r.users("ow")
		r.does(1, fmt.Sprintf("limit %d", n))
		r.gets("limit", 1)
		if got := gaps(r, 2); got != int(n) {
			t.Errorf("limit %d: %d strikes", n, got)
		}
	}
	for _, n := range []int64{10, 11, 256, 1 << 32, 1 << 40} {
		r := start(t, c)
		r.users("ow")
		r.does(1, fmt.Sprintf("limit %d", n))
		r.gets("limit", 1, fmt.Sprintf("Denied limit %d", n))
		if got := gaps(r, 2); got != 3 {
			t.Errorf("limit %d: %d strikes", n, got)
		}
	}
	for id := 2; id <= 3; id++ {
		r := start(t, c)
		r.users("owb")
		r.does(id, "limit 0")
		r.gets("limit", id, "Denied limit 0")
		if got := gaps(r, id); got != 3 {
			t.Errorf("limit by %d: %d strikes", id, got)
		}
	}
	r := start(t, c)
	r.users("ow")
	r.outputs("01234")
	r.does(1, "limit 0", "limit 9", "limit 1")
	r.outputs("5")
	r.there("who had as many as may be stays", []int{1, 2}, []int{1, 2}, 0)
	r.outputs("01234")
	r.there("till the next", []int{1, 2}, nil, 0)
}

// P14.7: of who isn't there, is fresh, open, and closing.
func TestAsked(t *testing.T) {
	r := start(t, conf.Default())
	asked := func(why string, wait int, at int64, role floor.Role, is bool) {
		t.Helper()
		r.waits(why, 8, wait)
		r.seen(why, 8, at, is)
		r.role(why, 8, role, is)
		var users []int
		if is {
			users = []int{8}
		}
		if got := r.b.Users(); !slices.Equal(got, users) {
			t.Errorf("%s: Users %v", why, got)
		}
	}
	r.outputs("abc\tde")
	asked("not there", 0, 0, 0, false)
	r.connects(8)
	asked("fresh", 0, 0, 0, false)
	r.sends(8, hello(typist, 4, "a"))
	asked("open", 22+11+15, 6, floor.Owner, true)
	if _, err := r.b.Write(8, 40); err != api.OK {
		t.Error(err)
	}
	asked("open", 8, 6, floor.Owner, true)
	r.does(8, "watch 8")
	asked("an observer", 8, 6, floor.Observer, true)
	r.sends(8, msg.Msg{Kind: msg.Bye})
	asked("closing", 19, 0, 0, false)
	r.reads(8)
	asked("not there any more", 0, 0, 0, false)
	if column, row := r.b.Spot(); column != 10 || row != 0 {
		t.Errorf("Spot %d, %d", column, row)
	}
	for _, id := range noNumbers {
		r.waits("no number", id, 0)
		r.seen("no number", id, 0, false)
		r.role("no number", id, 0, false)
	}
}

// P14.7: Conns and Users, by rising numbers, however they came.
func TestConnsInOrder(t *testing.T) {
	r := start(t, conf.Default())
	for _, id := range []int{12, 3, 16, 1, 7, 2} {
		r.joins(id, watcher, "n")
	}
	for _, id := range []int{9, 15, 4} {
		r.connects(id)
	}
	r.there("all", []int{1, 2, 3, 4, 7, 9, 12, 15, 16}, []int{1, 2, 3, 7, 12, 16}, 0)
	r.is("Cut", r.b.Cut(7), api.OK)
	r.sends(16, msg.Msg{Kind: msg.Bye})
	r.sends(4, msg.Msg{Kind: msg.Bye})
	r.there("some closing", []int{1, 2, 3, 4, 9, 12, 15, 16}, []int{1, 2, 3, 12}, 0)
}

// Rule 3: what is handed in is neither turned nor kept, an answer is new memory.
func TestMemory(t *testing.T) {
	r := start(t, conf.Default())
	spoil := func(b []byte) {
		for i := range b {
			b[i] ^= 0x55
		}
	}
	r.connects(1)
	for piece := range slices.Chunk(messages(hello(typist, 0, "ann"), keys(0, command("floor")), keys(0, "abc\x1d:lis"), keys(1, "t\n")), 5) {
		same := slices.Clone(piece)
		r.is("Bytes", r.b.Bytes(1, piece), api.OK)
		if !slices.Equal(piece, same) {
			t.Fatal("what is handed to Bytes is turned")
		}
		spoil(piece)
	}
	out := []byte("output")
	r.is("Output", r.b.Output(out), api.OK)
	if string(out) != "output" {
		t.Error("what is handed to Output is turned")
	}
	spoil(out)
	first, _ := r.b.Write(1, 22)
	kept := slices.Clone(first)
	spoil(first)
	if got := words(kept); !slices.Equal(got, []string{"Welcome 1 0 owner"}) {
		t.Errorf("%q", got)
	}
	second, _ := r.b.Write(1, 22)
	spoil(second[:cap(second)])
	r.does(1, "list", "replay 9")
	list := r.b.Conns()
	list[0] = 9
	list = r.b.Users()
	list[0] = 9
	r.there("answers were turned", []int{1}, []int{1}, 1)
	one := r.b.Drain(1)
	spoil(one[:cap(one)])
	r.drains("answers were turned", 9, "bc")
	r.gets("answers were turned", 1, "1 owner ann *", "Data 0 output", "1 owner ann *", "Data 0 output")
}

// Rule 4: what a broker answers hangs on nothing that is done to another.
func TestTwo(t *testing.T) {
	one, two := start(t, conf.Default()), start(t, small)
	one.users("ow")
	two.there("another", nil, nil, 0)
	two.users("b")
	one.does(1, "limit 0", "floor")
	one.outputs("abc")
	two.outputs("d")
	one.is("End", one.b.End(4), api.OK)
	two.outputs("e")
	one.b.Tick()
	two.gets("the second", 1, "Data 0 d")
	two.gets("the second", 1, "Data 1 e")
	one.gets("the first", 1, "Floor 1", "Data 0 abc", "Exit 4")
	two.there("the second", []int{1}, []int{1}, 0)
}

// Rule 1: a broker that New didn't make doesn't panic.
func TestZero(t *testing.T) {
	var b broker.Broker
	for range 2 {
		for id := -1; id <= 17; id++ {
			b.Write(id, 9)
			b.Connect(id)
			b.Bytes(id, messages(hello(typist, 9, "a"), keys(0, "k"+command("floor")+command("limit 9")+command("replay 9"))))
			b.Bytes(id, messages(hello(typist, 9, "a")))
			b.Output([]byte("output"))
			b.Waiting(id)
			b.Seen(id)
			b.Role(id)
			b.Write(id, 9)
			b.Tick()
			b.Connect(id)
			b.Cut(id + 1)
		}
		b.Conns()
		b.Users()
		b.Holder()
		b.Spot()
		b.Drain(9)
		b.End(5)
	}
}
