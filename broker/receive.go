package broker

import (
	"strconv"

	"kibitzer/api"
	"kibitzer/floor"
	"kibitzer/inq"
	"kibitzer/msg"
	"kibitzer/order"
	"kibitzer/view"
)

// The bits of a Hello's A, above which the version stands.
const (
	wantsToType = 1 << iota
	wantsLine
	versionUnit
)

// The greatest N of limit.
const maxLimit = 9

// receive takes the messages that bytes of a connection bring.
func (b *Broker) receive(c *connection, data []byte) {
	for _, f := range c.feed.Push(data) {
		if c.state == closing {
			return
		}
		m, ok := msg.Of(f)
		b.take(c, m, ok)
		b.tellHolder()
	}
	if c.feed.Err() != api.OK {
		b.shut(c, WhyFrame)
	}
}

// take takes a message; without one the connection is shut.
func (b *Broker) take(c *connection, m msg.Msg, ok bool) {
	switch {
	case !ok:
		b.shut(c, WhyMessage)
	case c.state == fresh:
		b.hello(c, m)
	case m.Kind == msg.Keys:
		b.keys(c, m)
	case m.Kind == msg.Ping:
		b.send(c, msg.Msg{Kind: msg.Pong})
	case m.Kind == msg.Bye:
		b.shut(c, WhyBye)
	default:
		b.shut(c, WhyMessage)
	}
}

// hello takes the first message of a connection.
func (b *Broker) hello(c *connection, m msg.Msg) {
	switch {
	case m.Kind != msg.Hello:
		b.shut(c, WhyMessage)
	case m.A/versionUnit != api.Version:
		b.shut(c, WhyVersion)
	case !isName(m.Text):
		b.shut(c, WhyName)
	default:
		b.join(c, m)
	}
}

// isName tells whether a text may be a user's name.
func isName(text string) bool {
	for _, sign := range []byte(text) {
		if sign <= ' ' || sign > '~' {
			return false
		}
	}
	return text != ""
}

// join lets a connection be a user's.
func (b *Broker) join(c *connection, m msg.Msg) {
	// Told ahead of all else: who has no room for it leaves, and may have been the one owner.
	b.tell(notice("joined " + strconv.Itoa(c.id) + " " + m.Text))
	c.state, c.name = open, m.Text
	c.view = view.New(&b.log, m.B, m.A&wantsLine != 0)
	role := b.firstRole(m.A&wantsToType != 0)
	b.table.Join(c.id, role)
	b.send(c, msg.Msg{Kind: msg.Welcome, A: int64(c.id), B: c.view.At(), Text: roleWord(role)})
	b.send(c, msg.Msg{Kind: msg.Floor, A: int64(b.told)})
	if b.ended {
		b.send(c, b.exit())
	}
}

// firstRole is the role of who comes.
func (b *Broker) firstRole(toType bool) floor.Role {
	if !toType {
		return floor.Observer
	}
	for _, id := range b.table.Users() {
		if b.isOwner(id) {
			return floor.Writer
		}
	}
	return floor.Owner
}

// isOwner tells whether a user is an owner.
func (b *Broker) isOwner(id int) bool {
	role, _ := b.table.Role(id)
	return role == floor.Owner
}

// roleWord is how a role is told.
func roleWord(r floor.Role) string {
	switch r {
	case floor.Owner:
		return "owner"
	case floor.Writer:
		return "writer"
	}
	return "observer"
}

// keys takes what a user typed: the keystrokes first, then what stands between them.
func (b *Broker) keys(c *connection, m msg.Msg) {
	typed, commands := c.lexer.Push([]byte(m.Text))
	if len(typed) > 0 {
		why := b.input.Offer(&b.table, c.id, typed)
		if why != inq.Fine {
			b.send(c, msg.Msg{Kind: msg.Reject, A: m.A, B: int64(why)})
		}
	}
	for _, line := range commands {
		if c.state != open {
			return
		}
		if !b.do(c, line) {
			b.send(c, msg.Msg{Kind: msg.Denied, Text: line})
		}
		b.tellHolder()
	}
}

// do does a user's command; false: it is none, or it can't be done.
func (b *Broker) do(c *connection, line string) bool {
	o, err := order.Parse(line)
	if err != api.OK || isOwners(o.Kind) && !b.isOwner(c.id) {
		return false
	}
	switch o.Kind {
	case order.Floor:
		return b.table.Ask(c.id) == api.OK
	case order.Drop:
		return b.table.Drop(c.id) == api.OK
	case order.List:
		b.list(c)
	case order.Detach:
		b.shut(c, WhyBye)
	case order.Revoke:
		return b.table.Revoke() == api.OK
	case order.Replay:
		c.view.Again(&b.log, o.N)
	case order.Limit:
		return b.limit(o.N)
	default:
		return b.doTo(o)
	}
	return true
}

// isOwners tells whether a kind's commands are an owner's alone.
func isOwners(k order.Kind) bool {
	switch k {
	case order.Revoke, order.Give, order.Kick, order.Write, order.Watch, order.Limit:
		return true
	}
	return false
}

// list tells a user who is there.
func (b *Broker) list(c *connection) {
	for other := range b.users() {
		role, _ := b.table.Role(other.id)
		line := strconv.Itoa(other.id) + " " + roleWord(role) + " " + other.name
		if b.table.Holder() == other.id {
			line += " *"
		}
		b.send(c, notice(line))
	}
}

// limit turns how many strikes may be; false: these are too many.
func (b *Broker) limit(n int64) bool {
	if n > maxLimit {
		return false
	}
	b.strikes = int(n)
	return true
}

// doTo does a command that is about a user; false: there is none of that number, or it can't be done.
func (b *Broker) doTo(o order.Order) bool {
	c := b.user(o.N)
	if c == nil {
		return false
	}
	switch o.Kind {
	case order.Give:
		return b.table.Give(c.id) == api.OK
	case order.Kick:
		b.shut(c, WhyKick)
	case order.Write:
		b.table.SetRole(c.id, floor.Writer)
	case order.Watch:
		b.table.SetRole(c.id, floor.Observer)
	}
	return true
}
