package audit_test

import (
	"fmt"
	"math/rand"
	"slices"
	"testing"

	"kibitzer/audit"
	"kibitzer/msg"
)

// reason is why a message may not be, in the document's words and from what stands ahead of it alone; "": it may.
func reason(list []msg.Msg, i int, output string, strikes int) string {
	m, upTo, gaps, last := list[i], int64(0), 0, false
	for _, ahead := range list[:i] {
		switch ahead.Kind {
		case msg.Welcome, msg.Gap:
			upTo = ahead.B
		case msg.Data:
			upTo = ahead.A + int64(len(ahead.Text))
		case msg.Evicted, msg.Closed:
			last = true
		}
		if ahead.Kind == msg.Gap {
			gaps++
		}
	}
	end := int64(len(output))
	switch {
	case !m.Right():
		return "it isn't Right"
	case slices.Contains([]msg.Kind{msg.Hello, msg.Keys, msg.Ping, msg.Bye}, m.Kind):
		return "a user's"
	case last:
		return "behind the last"
	case i == 0 && m.Kind != msg.Welcome && m.Kind != msg.Closed:
		return "the first"
	case i > 0 && m.Kind == msg.Welcome:
		return "not the first"
	case m.Kind == msg.Welcome && m.B > end:
		return "Welcome's B"
	case m.Kind == msg.Data && m.A != upTo:
		return "Data's A"
	case m.Kind == msg.Data && m.Text == "":
		return "empty"
	case m.Kind == msg.Data && (upTo+int64(len(m.Text)) > end || output[upTo:upTo+int64(len(m.Text))] != m.Text):
		return "the bytes"
	case m.Kind == msg.Gap && m.A != upTo:
		return "a Gap's A"
	case m.Kind == msg.Gap && m.B <= m.A:
		return "B isn't above A"
	case m.Kind == msg.Gap && m.B > end:
		return "beyond the output"
	case m.Kind == msg.Gap && gaps >= strikes:
		return "strikes"
	}
	return ""
}

// first is what First must tell, and why.
func first(list []msg.Msg, output string, strikes int) (int, string) {
	for i := range list {
		if why := reason(list, i, output, strikes); why != "" {
			return i, why
		}
	}
	return -1, "none"
}

// chance is what there is, by chance that is always the same.
type chance struct{ *rand.Rand }

func (c chance) text(n int) string {
	b := make([]byte, n)
	for i := range b {
		b[i] = "ab\n\xff"[c.Intn(4)]
	}
	return string(b)
}

// number is one near another, most often just that.
func (c chance) number(near int64) int64 {
	switch c.Intn(40) {
	case 0:
		return near + 1
	case 1:
		return near - 1
	case 2:
		return int64(c.Intn(30))
	case 3:
		return c.Int63n(1<<41) - 1<<39
	case 4:
		return c.Int63() - c.Int63()
	}
	return near
}

// message is one that most often may be, where it was sent up to so far.
func (c chance) message(upTo int64, output string) msg.Msg {
	end := int64(len(output))
	here := min(max(upTo, 0), end)
	switch n := c.Intn(60); {
	case n < 24:
		return data(c.number(upTo), output[here:][:min(int(end-here), 1+c.Intn(4))])
	case n < 38:
		return gap(c.number(upTo), c.number(min(upTo+1+c.Int63n(3), end)))
	case n < 48:
		return msg.Msg{Kind: []msg.Kind{msg.Floor, msg.Exit}[n%2], A: c.number(3)}
	case n < 52:
		return msg.Msg{Kind: []msg.Kind{msg.Notice, msg.Denied}[n%2], Text: c.text(max(0, c.Intn(40)*3-35))}
	case n < 54:
		return data(upTo, c.text(c.Intn(3)))
	case n < 55:
		return welcome(c.number(upTo))
	case n < 56:
		return []msg.Msg{evicted, closed}[c.Intn(2)]
	case n < 57:
		return msg.Msg{Kind: msg.Kind(c.Intn(20) - 2), A: c.number(upTo), B: c.number(end), Text: c.text(c.Intn(3))}
	case n < 58:
		return msg.Msg{Kind: msg.Kind(1 + c.Intn(15))}
	}
	return pong
}

// list is messages of which the first ones most often may be.
func (c chance) list(output string) []msg.Msg {
	upTo := int64(c.Intn(len(output) + 1))
	list := []msg.Msg{welcome(c.number(upTo))}
	if c.Intn(8) == 0 {
		list[0] = c.message(upTo, output)
	}
	for range c.Intn(25) {
		m := c.message(upTo, output)
		list = append(list, m)
		switch m.Kind {
		case msg.Data:
			upTo = m.A + int64(len(m.Text))
		case msg.Gap:
			upTo = m.B
		}
	}
	return list
}

// P15.1: First and the document's words, of messages by chance.
func TestModel(t *testing.T) {
	met := map[string]int{}
	for seed := range int64(60000) {
		c := chance{rand.New(rand.NewSource(seed))}
		output := c.text(c.Intn(30))
		list, strikes := c.list(output), c.Intn(7)-1
		want, why := first(list, output, strikes)
		met[why]++
		met[where(want, len(list))+why]++
		if got := audit.First(list, output, strikes); got != want {
			t.Fatalf("seed %d: %+v of %q, %d strikes: %d, not %d (%s)", seed, list, output, strikes, got, want, why)
		}
	}
	for _, why := range worthMeeting() {
		if met[why] == 0 {
			t.Errorf("never met: %s", why)
		}
	}
}

// where is at what place of a list something stands.
func where(at, n int) string {
	switch at {
	case -1:
		return "of all "
	case 0:
		return "first: "
	case n - 1:
		return "last: "
	}
	return "amid: "
}

// worthMeeting is what must come by in TestModel: else it would tell little.
func worthMeeting() []string {
	list := []string{"of all none", "first: the first", "first: Welcome's B", "first: it isn't Right", "first: a user's"}
	for _, why := range []string{"it isn't Right", "a user's", "behind the last", "not the first", "Data's A", "empty", "the bytes", "a Gap's A", "B isn't above A", "beyond the output", "strikes"} {
		list = append(list, fmt.Sprintf("amid: %s", why), fmt.Sprintf("last: %s", why))
	}
	return list
}
