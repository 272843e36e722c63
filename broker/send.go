package broker

import (
	"strconv"

	"kibitzer/conf"
	"kibitzer/msg"
)

// send lets a message wait for a connection, which leaves if there is no room for it.
func (b *Broker) send(c *connection, m msg.Msg) {
	if c.state == closing {
		return
	}
	if !c.queue.Put(msg.Put(nil, m)) {
		b.leave(c)
	}
}

// tell sends a message to all users.
func (b *Broker) tell(m msg.Msg) {
	for c := range b.users() {
		b.send(c, m)
	}
}

// leave lets a connection be closing; the other users are told at once, even amid something else that they are told, if it was one of them.
func (b *Broker) leave(c *connection) {
	was := c.state
	c.state = closing
	if was != open {
		return
	}
	b.table.Leave(c.id)
	b.tell(notice("left " + strconv.Itoa(c.id)))
}

// shut tells a connection why it is closed, and lets it leave.
func (b *Broker) shut(c *connection, why int64) {
	b.send(c, msg.Msg{Kind: msg.Closed, A: why})
	// Without room for that it has left by it: then this does nothing.
	b.leave(c)
}

// tellHolder tells all users who holds the floor, if they weren't told yet.
func (b *Broker) tellHolder() {
again:
	holder := b.table.Holder()
	if holder == b.told {
		return
	}
	b.told = holder
	b.tell(msg.Msg{Kind: msg.Floor, A: int64(holder)})
	// Who left for want of room may have been the one that was just told.
	goto again
}

// settle brings all to rest behind an event: each user knows who holds the floor, and what there is of the output waits for them.
func (b *Broker) settle() {
	b.tellHolder()
	for c := range b.users() {
		b.serve(c)
	}
	b.tellHolder()
	for c := range b.all() {
		if c.state == closing && c.queue.Len() == 0 {
			delete(b.conns, c.id)
		}
	}
}

// serve lets what a user wasn't sent of the output wait for them, as far as there is room.
func (b *Broker) serve(c *connection) {
next:
	m, ok := c.view.Next(&b.log, c.queue.Room()-conf.Reserve, b.conf.Data, b.strikes)
	if !ok {
		return
	}
	// Evicted alone may have no room here: all else Next tells just if it has.
	c.queue.Put(msg.Put(nil, m))
	if m.Kind == msg.Evicted {
		b.leave(c)
		return
	}
	goto next
}

// notice is a line that is told.
func notice(line string) msg.Msg { return msg.Msg{Kind: msg.Notice, Text: line} }
