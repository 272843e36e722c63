package broker_test

import (
	"bytes"
	"fmt"
	"math/rand"
	"slices"
	"strings"
	"testing"

	"kibitzer/api"
	"kibitzer/broker"
	"kibitzer/conf"
	"kibitzer/floor"
	"kibitzer/frame"
	"kibitzer/lex"
	"kibitzer/msg"
	"kibitzer/order"
	"kibitzer/spot"
)

// peer is a connection of a model.
type peer struct {
	id    int
	state string // "" is not there
	bytes []byte // what came and is no message yet
	lexer *lex.Lexer
	queue []byte
	idle  int
	name  string
	role  floor.Role
	at    int64
	lags  int
	later []byte // what comes next, by chance
}

// model is a broker in the document's words, which keeps all of the output and no table.
type model struct {
	conf.Conf
	output []byte
	spot   *spot.Spot
	peers  [api.MaxUsers + 1]peer
	holder int
	left   int
	waits  []int
	input  []byte
	most   int // strikes
	told   int
	code   int64 // -1: it runs
	met    map[string]int
	amid   int // how many others are being told
}

func newModel(c conf.Conf, met map[string]int) *model {
	return &model{Conf: c, spot: spot.New(c.Width), most: c.Strikes, code: -1, met: met}
}

// saw counts what comes by, so that one can tell whether all did.
func (m *model) saw(what string) { m.met[what]++ }

func (m *model) base() int64 { return max(0, int64(len(m.output)-m.Log)) }

// P14.2

func (m *model) sent(p *peer, kind msg.Kind, a, b int64, text string) {
	if p.state == "closing" {
		m.saw("sent to one that is closing")
		return
	}
	all := msg.Put(slices.Clone(p.queue), msg.Msg{Kind: kind, A: a, B: b, Text: text})
	if len(all) <= m.Queue {
		if len(all) == m.Queue {
			m.saw("just room")
		}
		p.queue = all
		return
	}
	if len(all) == m.Queue+1 {
		m.saw("one byte more than room")
	}
	m.saw("no room")
	m.leaves(p)
}

func (m *model) allAreTold(kind msg.Kind, a int64, text string) {
	m.saw(fmt.Sprintf("told amid %d others", m.amid))
	m.amid++
	for id := range m.peers {
		if m.peers[id].state == "open" {
			m.sent(&m.peers[id], kind, a, 0, text)
		}
	}
	m.amid--
}

func (m *model) leaves(p *peer) {
	old := p.state
	p.state = "closing"
	if old == "open" {
		m.loses(p.id)
		m.allAreTold(msg.Notice, 0, fmt.Sprintf("left %d", p.id))
	}
}

func (m *model) isShut(p *peer, why int64) {
	m.saw(fmt.Sprintf("why %d, %s", why, p.state))
	m.sent(p, msg.Closed, why, 0, "")
	if p.state != "closing" {
		m.leaves(p)
	} else {
		m.saw("Closed without room")
	}
}

func (m *model) holderIsTold() {
	for n := 0; m.holder != m.told; n++ {
		m.saw(fmt.Sprintf("holder told %d times before", n))
		m.told = m.holder
		m.allAreTold(msg.Floor, int64(m.told), "")
	}
}

// Layer 10, without a table of its own.

func (m *model) passes() {
	m.holder, m.left = 0, 0
	if len(m.waits) > 0 {
		m.granted(m.waits[0])
	}
}

func (m *model) granted(id int) {
	m.waits = slices.DeleteFunc(m.waits, func(other int) bool { return other == id })
	m.holder, m.left = id, m.Lease
}

func (m *model) loses(id int) {
	m.waits = slices.DeleteFunc(m.waits, func(other int) bool { return other == id })
	if m.holder == id {
		m.passes()
	}
}

func (m *model) has(id int) bool { return m.holder == id || slices.Contains(m.waits, id) }

// P14.3

func (m *model) settled() {
	m.holderIsTold()
	for id := range m.peers {
		m.served(&m.peers[id])
	}
	m.holderIsTold()
	for id := range m.peers {
		if p := &m.peers[id]; p.state == "closing" && len(p.queue) == 0 {
			*p = peer{}
		}
	}
}

func (m *model) served(p *peer) {
	for p.state == "open" {
		room := m.Queue - len(p.queue) - 200
		if p.at < m.base() {
			if p.lags >= m.most || room < 17 {
				m.evicted(p, room)
				return
			}
			m.saw("Gap")
			p.queue = msg.Put(p.queue, msg.Msg{Kind: msg.Gap, A: p.at, B: m.base()})
			p.at = m.base()
			p.lags++
			continue
		}
		n := min(len(m.output)-int(p.at), m.Data, room-11, 2042)
		if n < 1 {
			return
		}
		p.queue = msg.Put(p.queue, msg.Msg{Kind: msg.Data, A: p.at, Text: string(m.output[p.at:][:n])})
		p.at += int64(n)
	}
}

func (m *model) evicted(p *peer, room int) {
	if p.lags < m.most {
		m.saw("evicted for want of room")
	}
	with := msg.Put(slices.Clone(p.queue), msg.Msg{Kind: msg.Evicted})
	if len(with) <= m.Queue {
		m.saw("Evicted has room")
		p.queue = with
	} else {
		m.saw("Evicted has no room")
	}
	m.leaves(p)
}

// P14.4

func (m *model) peer(id int) *peer {
	if id < 1 || id > api.MaxUsers || m.peers[id].state == "" {
		return nil
	}
	return &m.peers[id]
}

func (m *model) connect(id int) api.Errno {
	if id < 1 || id > 16 {
		return api.ErrArg
	}
	if m.peers[id].state != "" {
		return api.ErrState
	}
	m.peers[id] = peer{id: id, state: "fresh", lexer: lex.New()}
	return api.OK
}

func (m *model) comes(id int, data []byte) api.Errno {
	p := m.peer(id)
	if p == nil {
		return api.ErrNone
	}
	if p.state == "closing" {
		return api.ErrState
	}
	if len(data) > 0 {
		p.idle = 0
	}
	p.bytes = append(p.bytes, data...)
	for p.state != "closing" {
		f, n, err := frame.Get(p.bytes)
		if err == api.ErrShort {
			break
		}
		if err != api.OK {
			m.isShut(p, 1)
			break
		}
		p.bytes = p.bytes[n:]
		one, ok := msg.Of(f)
		m.taken(p, one, ok)
		m.holderIsTold()
	}
	m.settled()
	return api.OK
}

func (m *model) write(id, n int) ([]byte, api.Errno) {
	p := m.peer(id)
	if p == nil {
		return nil, api.ErrNone
	}
	n = min(max(n, 0), len(p.queue))
	b := slices.Clone(p.queue[:n])
	p.queue = slices.Clone(p.queue[n:])
	m.settled()
	return b, api.OK
}

func (m *model) cut(id int) api.Errno {
	p := m.peer(id)
	if p == nil {
		return api.ErrNone
	}
	m.saw("cut of one that is " + p.state)
	m.leaves(p)
	*p = peer{}
	m.settled()
	return api.OK
}

func (m *model) writes(data []byte) api.Errno {
	if m.code >= 0 {
		return api.ErrState
	}
	m.output = append(m.output, data...)
	m.spot.Put(data)
	m.settled()
	return api.OK
}

func (m *model) drain(n int) []byte {
	n = min(max(n, 0), len(m.input))
	b := m.input[:n]
	m.input = m.input[n:]
	return b
}

func (m *model) end(code int64) api.Errno {
	if m.code >= 0 {
		return api.ErrState
	}
	if code < 0 || code > 255 {
		return api.ErrArg
	}
	m.code = code
	m.input = nil
	m.allAreTold(msg.Exit, code, "")
	m.settled()
	return api.OK
}

func (m *model) tick() {
	if m.holder != 0 {
		m.left--
		if m.left == 0 && len(m.waits) > 0 {
			m.saw("a lease is over")
			m.passes()
		} else if m.left == 0 {
			m.left = m.Lease
		}
	}
	for id := range m.peers {
		p := &m.peers[id]
		p.idle++
		if m.Idle != 0 && p.idle >= m.Idle && p.state != "" && p.state != "closing" {
			m.isShut(p, 6)
		}
	}
	m.settled()
}

// P14.5

func (m *model) taken(p *peer, one msg.Msg, ok bool) {
	switch {
	case !ok || p.state == "fresh" && one.Kind != msg.Hello:
		m.isShut(p, 4)
	case p.state == "fresh":
		m.greeted(p, one)
	case one.Kind == msg.Keys:
		m.typed(p, one)
	case one.Kind == msg.Ping:
		m.sent(p, msg.Pong, 0, 0, "")
	case one.Kind == msg.Bye:
		m.isShut(p, 0)
	default:
		m.isShut(p, 4)
	}
}

func (m *model) greeted(p *peer, one msg.Msg) {
	if one.A < 4 || one.A > 7 {
		m.isShut(p, 2)
		return
	}
	if one.Text == "" || strings.ContainsFunc(one.Text, func(r rune) bool { return r < 0x21 || r > 0x7e }) {
		m.isShut(p, 3)
		return
	}
	m.allAreTold(msg.Notice, 0, fmt.Sprintf("joined %d %s", p.id, one.Text))
	p.role = floor.Observer
	if one.A == 5 || one.A == 7 {
		p.role = floor.Owner
		for _, other := range m.peers {
			if other.state == "open" && other.role == floor.Owner {
				p.role = floor.Writer
			}
		}
	}
	p.state, p.name = "open", one.Text
	p.at = max(int64(len(m.output))-one.B, m.base())
	if one.A >= 6 {
		p.at = m.line(p.at)
	}
	m.saw("welcome of " + roleNames[p.role])
	m.sent(p, msg.Welcome, int64(p.id), p.at, roleNames[p.role])
	m.sent(p, msg.Floor, int64(m.told), 0, "")
	if m.code >= 0 {
		m.sent(p, msg.Exit, m.code, 0, "")
	}
}

var roleNames = []string{"observer", "writer", "owner"}

// line is where a line begins that is known to.
func (m *model) line(at int64) int64 {
	for ; at < int64(len(m.output)); at++ {
		if at == 0 || at > m.base() && m.output[at-1] == '\n' {
			return at
		}
	}
	return at
}

// P14.6

func (m *model) typed(p *peer, one msg.Msg) {
	keystrokes, commands := p.lexer.Push([]byte(one.Text))
	if len(keystrokes) > 0 {
		why := int64(0)
		switch {
		case m.code >= 0:
			why = 1
		case p.role == floor.Observer:
			why = 3
		case m.holder != p.id:
			why = 4
		case len(m.input)+len(keystrokes) > m.Input:
			why = 5
		}
		m.saw(fmt.Sprintf("keystrokes, reason %d", why))
		if why == 0 {
			m.input = append(m.input, keystrokes...)
		} else {
			m.sent(p, msg.Reject, one.A, why, "")
		}
	}
	for _, line := range commands {
		if p.state != "open" {
			m.saw("commands behind the one by which it closes")
			break
		}
		if !m.done(p, line) {
			m.sent(p, msg.Denied, 0, 0, line)
		}
		m.holderIsTold()
	}
}

func (m *model) done(p *peer, line string) bool {
	o, err := order.Parse(line)
	if err != api.OK {
		m.saw("no command")
		return false
	}
	word, _, _ := strings.Cut(line, " ")
	role := roleNames[p.role]
	ok := m.doneOf(p, o)
	m.saw(fmt.Sprintf("%s by %s: %v", word, role, ok))
	return ok
}

func (m *model) doneOf(p *peer, o order.Order) bool {
	owner := p.role == floor.Owner
	var other *peer
	if o.N <= 16 {
		other = m.peer(int(o.N))
	}
	if other != nil && other.state != "open" {
		m.saw("a command about one that isn't open")
		other = nil
	}
	switch o.Kind {
	case order.Floor:
		if p.role == floor.Observer || m.has(p.id) {
			return false
		}
		if m.holder == 0 {
			m.granted(p.id)
		} else {
			m.waits = append(m.waits, p.id)
		}
	case order.Drop:
		if !m.has(p.id) {
			return false
		}
		m.loses(p.id)
	case order.List:
		for _, other := range m.peers {
			if other.state == "open" {
				star := map[bool]string{true: " *"}[other.id == m.holder]
				m.sent(p, msg.Notice, 0, 0, fmt.Sprintf("%d %s %s%s", other.id, roleNames[other.role], other.name, star))
			}
		}
	case order.Detach:
		m.isShut(p, 0)
	case order.Revoke:
		if !owner || m.holder == 0 {
			return false
		}
		m.passes()
	case order.Replay:
		p.at = max(int64(len(m.output))-o.N, m.base())
	case order.Limit:
		if !owner || o.N > 9 {
			return false
		}
		m.most = int(o.N)
	case order.Give:
		if !owner || other == nil || other.role == floor.Observer || m.holder == other.id {
			return false
		}
		m.granted(other.id)
	case order.Kick:
		if !owner || other == nil {
			return false
		}
		m.isShut(other, 5)
	case order.Write:
		if !owner || other == nil {
			return false
		}
		other.role = floor.Writer
	case order.Watch:
		if !owner || other == nil {
			return false
		}
		other.role = floor.Observer
		m.loses(other.id)
	}
	return true
}

// same holds all that a broker can be asked against the model.
func (m *model) same(t *testing.T, why string, b *broker.Broker) {
	t.Helper()
	var conns, users []int
	for id := -1; id <= 18; id++ {
		p := m.peer(id)
		wait, at, role, open := 0, int64(0), floor.Role(0), false
		if p != nil {
			conns = append(conns, id)
			wait = len(p.queue)
			if p.state == "open" {
				users = append(users, id)
				at, role, open = p.at, p.role, true
			}
		}
		gotAt, isSeen := b.Seen(id)
		gotRole, isUser := b.Role(id)
		if b.Waiting(id) != wait || gotAt != at || isSeen != open || gotRole != role || isUser != open {
			t.Fatalf("%s: %d: %d wait, Seen %d, %v, role %d, %v; not %d, %d, %d, %v", why, id, b.Waiting(id), gotAt, isSeen, gotRole, isUser, wait, at, role, open)
		}
	}
	if !slices.Equal(b.Conns(), conns) || !slices.Equal(b.Users(), users) || b.Holder() != m.holder {
		t.Fatalf("%s: Conns %v, Users %v, Holder %d; not %v, %v, %d", why, b.Conns(), b.Users(), b.Holder(), conns, users, m.holder)
	}
	column, row := b.Spot()
	if wantColumn, wantRow := m.spot.At(); column != wantColumn || row != wantRow {
		t.Fatalf("%s: Spot %d, %d", why, column, row)
	}
}

// chance is what happens, by chance that is always the same.
type chance struct{ *rand.Rand }

func (c chance) of(list ...string) string { return list[c.Intn(len(list))] }

func (c chance) conf() conf.Conf {
	return conf.Conf{
		Log: 1 + c.Intn(80)*(1+c.Intn(20)), Data: 1 + c.Intn(40), Queue: 220 + c.Intn(60)*c.Intn(6), Input: 1 + c.Intn(20),
		Strikes: c.Intn(4), Lease: 1 + c.Intn(4), Idle: c.Intn(2) * (4 + c.Intn(20)), Width: 1 + c.Intn(12),
	}
}

// id is a connection's number, most often one of a few.
func (c chance) id() int {
	switch c.Intn(20) {
	case 0:
		return c.Intn(20) - 1
	case 1:
		return 16
	}
	return 1 + c.Intn(6)
}

func (c chance) text(n int) string {
	b := make([]byte, c.Intn(n))
	for i := range b {
		b[i] = "abcdefg \n\n\r\t\b\x1b[AD"[c.Intn(17)]
	}
	return string(b)
}

// typed is what a user may type.
func (c chance) typed() string {
	text := ""
	for range 1 + c.Intn(4) {
		switch c.Intn(6) {
		case 0:
			text += c.text(6)
		case 1, 2:
			text += command(c.of("floor", "floor", "floor", "drop", "list", "list", "revoke"))
		case 3:
			text += command(fmt.Sprintf("%s %d", c.of("give", "give", "write", "watch", "write"), c.id()))
		case 4:
			text += command(fmt.Sprintf("%s %d", c.of("replay", "limit"), c.Intn(12)))
		case 5:
			text += c.of(command("detach"), command(fmt.Sprintf("kick %d", c.id())), command(c.text(9)), "\x1d:flo", "or\n", "\x1d\x1d", "\x1dx", command(""), command(strings.Repeat("x", 78+c.Intn(4))))
		}
	}
	return text
}

// message is one, or several, of a connection, most often such as may be.
func (c chance) message(p *peer, size int) []byte {
	if p != nil && p.state == "fresh" && c.Intn(15) > 0 {
		return messages(hello(4+int64(c.Intn(4)), int64(c.Intn(90)), c.of("a", "bob", "cat~", "!", "a-name-of-twenty-one")))
	}
	switch n := c.Intn(100); {
	case n < 70:
		return messages(keys(int64(c.Intn(99)), c.typed()))
	case n < 80:
		return messages(msg.Msg{Kind: msg.Ping})
	case n < 94 && p != nil:
		// As many as let hardly any room be left.
		room := size - len(p.queue)
		return bytes.Repeat(messages(msg.Msg{Kind: msg.Ping}), max(0, (room-c.Intn(30))/5))
	case n < 95:
		return messages(msg.Msg{Kind: msg.Bye})
	case n < 97:
		return messages(hello(int64(c.Intn(12)), 0, c.of("", "a b", "\x7f", "ok", "\xff")))
	case n < 98:
		return messages(msg.Msg{Kind: msg.Kind(1 + c.Intn(15))})
	case n < 99:
		b := messages(keys(1, "abc"))
		b[c.Intn(len(b))] ^= 1
		return b
	}
	return nil
}

// data is bytes of a connection: messages, in pieces that now and then end amid one, and then begin there.
func (c chance) data(p *peer, size int) []byte {
	if p == nil {
		return c.message(p, size)
	}
	all := p.later
	n := c.Intn(3)
	if p.state == "fresh" {
		// One Hello is enough.
		n = 1 - min(len(all), 1)
	}
	for range n {
		all = append(all, c.message(p, size)...)
	}
	now := len(all)
	if c.Intn(4) == 0 {
		now = c.Intn(now + 1)
	}
	p.later = all[now:]
	return all[:now]
}

// happens lets one thing happen to both.
func (c chance) happens(t *testing.T, m *model, b *broker.Broker) string {
	t.Helper()
	id := c.id()
	var got, want api.Errno
	var gotBytes, wantBytes []byte
	why := ""
	switch n := c.Intn(100); {
	case n < 12:
		why = fmt.Sprintf("Connect %d", id)
		got, want = b.Connect(id), m.connect(id)
	case n < 56:
		data := c.data(m.peer(id), m.Queue)
		why = fmt.Sprintf("Bytes %d %q", id, data)
		got, want = b.Bytes(id, data), m.comes(id, data)
	case n < 64:
		data := []byte(c.text(1 + c.Intn(40)))
		why = fmt.Sprintf("Output %q", data)
		got, want = b.Output(data), m.writes(data)
	case n < 86:
		n := c.Intn(120)*c.Intn(5) - 2
		why = fmt.Sprintf("Write %d %d", id, n)
		gotBytes, got = b.Write(id, n)
		wantBytes, want = m.write(id, n)
	case n < 90:
		n := c.Intn(10) - 1
		why = fmt.Sprintf("Drain %d", n)
		gotBytes, wantBytes = b.Drain(n), m.drain(n)
	case n < 91:
		why = fmt.Sprintf("Cut %d", id)
		got, want = b.Cut(id), m.cut(id)
	case n < 99 || c.Intn(3) > 0:
		why = "Tick"
		b.Tick()
		m.tick()
	default:
		code := int64(c.Intn(300) - 20)
		why = fmt.Sprintf("End %d", code)
		got, want = b.End(code), m.end(code)
	}
	if got != want || !bytes.Equal(gotBytes, wantBytes) {
		t.Fatalf("%s: %q, %s; not %q, %s", why, gotBytes, got.Word(), wantBytes, want.Word())
	}
	return why
}

// P14.1 to P14.7: a broker and the model, by whatever happens.
func TestModel(t *testing.T) {
	met := map[string]int{}
	for seed := range int64(1500) {
		c := chance{rand.New(rand.NewSource(seed))}
		with := c.conf()
		b, m := broker.New(with), newModel(with, met)
		for n := range 250 {
			why := c.happens(t, m, b)
			m.same(t, fmt.Sprintf("seed %d, event %d, %s", seed, n, why), b)
		}
	}
	for _, what := range worthMeeting() {
		if met[what] == 0 {
			t.Errorf("it never happens: %s", what)
		}
	}
}

// worthMeeting is what must happen to the model at least once: else the test would hold little against it.
func worthMeeting() []string {
	list := []string{
		"sent to one that is closing", "just room", "one byte more than room", "Closed without room",
		"told amid 1 others", "told amid 2 others", "told amid 3 others", "holder told 1 times before", "a lease is over",
		"Gap", "evicted for want of room", "Evicted has room", "Evicted has no room",
		"cut of one that is fresh", "cut of one that is open", "cut of one that is closing",
		"why 0, open", "why 1, fresh", "why 1, open", "why 2, fresh", "why 3, fresh", "why 4, fresh", "why 4, open", "why 5, open", "why 6, fresh", "why 6, open",
		"keystrokes, reason 0", "keystrokes, reason 1", "keystrokes, reason 3", "keystrokes, reason 4", "keystrokes, reason 5",
		"commands behind the one by which it closes", "a command about one that isn't open", "no command",
	}
	for _, role := range roleNames {
		list = append(list, "welcome of "+role)
		for _, word := range []string{"list", "detach", "replay"} {
			list = append(list, word+" by "+role+": true")
		}
		for _, word := range []string{"revoke", "give", "kick", "write", "watch", "limit"} {
			list = append(list, word+" by "+role+": false", word+" by owner: true")
		}
		for _, word := range []string{"floor", "drop"} {
			list = append(list, word+" by "+role+": false", word+" by owner: true", word+" by writer: true")
		}
	}
	return list
}
