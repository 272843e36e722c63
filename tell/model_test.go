package tell_test

import (
	"fmt"
	"math/rand"
	"slices"
	"strings"
	"testing"

	"kibitzer/api"
	"kibitzer/conf"
	"kibitzer/feed"
	"kibitzer/msg"
	"kibitzer/play"
	"kibitzer/script"
	"kibitzer/tell"
)

// whole is the messages of all that was written to a connection.
func whole(written string) []msg.Msg {
	var list []msg.Msg
	for _, f := range feed.New().Push([]byte(written)) {
		if m, ok := msg.Of(f); ok {
			list = append(list, m)
		}
	}
	return list
}

// writtenTo is all that was written to a connection since its last Connect that was OK.
func writtenTo(id int, list []script.Event, outs []play.Out) string {
	written := ""
	for i, out := range outs {
		if out.Err != api.OK || list[i].ID != id {
			continue
		}
		switch list[i].Kind {
		case script.Connect:
			written = ""
		case script.Write:
			written += out.Data
		}
	}
	return written
}

// asDigits is bytes as they are told.
func asDigits(s string) string {
	if s == "" {
		return "-"
	}
	return fmt.Sprintf("%x", s)
}

// linesOf is what must be told of the last of events, in the chapter's words.
func linesOf(list []script.Event, outs []play.Out) []string {
	last := len(outs) - 1
	e, out := list[last], outs[last]
	switch {
	case out.Err != api.OK:
		return []string{out.Err.Word()}
	case e.Kind == script.Write:
		lines := []string{fmt.Sprintf("wrote %d", len(out.Data))}
		ahead := whole(writtenTo(e.ID, list, outs[:last]))
		for _, m := range whole(writtenTo(e.ID, list, outs))[len(ahead):] {
			lines = append(lines, fmt.Sprintf("%d %s %d %d %s", e.ID, kindWords[m.Kind-1].word, m.A, m.B, asDigits(m.Text)))
		}
		return lines
	case e.Kind == script.Drain:
		return []string{"drained " + asDigits(out.Data)}
	}
	return []string{"ok"}
}

// model is what Run must tell, all events done.
func model(data []byte) []string {
	c, list, at, err := script.Decode(data)
	_, outs := play.Events(c, list)
	var lines []string
	for n := range outs {
		lines = append(lines, linesOf(list, outs[:n+1])...)
	}
	if err != api.OK {
		lines = append(lines, fmt.Sprintf("error %s at %d", err.Word(), at))
	}
	return upTo500(lines)
}

// chance is what there is, by chance that is always the same.
type chance struct{ *rand.Rand }

// of is one of the texts.
func (c chance) of(list ...string) string { return list[c.Intn(len(list))] }

// says is what a connection may send: mostly what is a message, but in whatever pieces.
func (c chance) says() string {
	switch c.Intn(8) {
	case 0, 1:
		return hello(int64(4+c.Intn(4)), "u")
	case 2:
		return strings.Repeat(ping(), c.Intn(20))
	case 3:
		return c.of("", bye(), "\xff", "\x00\x01", hello(5, "cut")[:9])
	}
	line := c.of("floor", "floor", "drop", "list", "detach", "revoke", "replay 90", "limit 2", "give 2", "kick 1", "write 2", "watch 1", "none")
	return keys(c.of("", "ab", "c\x1d\x1d", "\x00\xff") + "\x1d:" + line + c.of("\n", "\n", "\n", ""))
}

// event is one that mostly does something; who is written to is so in small pieces mostly.
func (c chance) event() script.Event {
	id := 1 + c.Intn(3)
	switch c.Intn(24) {
	case 0, 1:
		return connect(id)
	case 2, 3, 4, 5, 6, 7, 8:
		return bytes(id, c.says())
	case 9, 10, 11, 12, 13, 14, 15:
		return write(id, c.Intn(1+[]int{5, 30, 60, 400}[c.Intn(4)]))
	case 16, 17, 18:
		return output(c.of("", "a\n", "bcd", string(make([]byte, 120))))
	case 19, 20:
		return drain(c.Intn(9))
	case 21:
		return cut(id)
	}
	switch c.Intn(8) {
	case 0:
		return end(100 * c.Intn(4))
	case 1:
		return connect(c.Intn(256))
	}
	return tick()
}

// script is one of up to so many events, some of whose bytes may be turned, or missing.
func (c chance) script(t *testing.T, with conf.Conf, events int) []byte {
	list := make([]script.Event, c.Intn(events))
	for i := range list {
		list[i] = c.event()
	}
	b := encoded(t, with, list...)
	switch c.Intn(4) {
	case 0:
		b = b[:24+c.Intn(len(b)-23)]
	case 1:
		for range min(3, len(list)) {
			b[24+c.Intn(len(b)-24)] = byte(c.Intn(256) * c.Intn(2))
		}
	}
	return b
}

// P18.2, P1: whatever bytes a script has: the lines are such as the chapter's words say.
func TestWhatever(t *testing.T) {
	words := map[string]int{}
	for seed := range int64(3000) {
		c := chance{rand.New(rand.NewSource(seed))}
		with := quick
		if c.Intn(3) == 0 {
			with = conf.Default()
		}
		b := c.script(t, with, 20+c.Intn(700))
		want := model(b)
		tells(t, fmt.Sprintf("seed %d", seed), b, want...)
		for _, line := range want {
			parts := strings.Split(line, " ")
			words[parts[0]]++
			if len(parts) > 2 {
				words[parts[1]]++
			}
		}
	}
	for _, word := range []string{
		"ok", "arg", "none", "state", "wrote", "drained", "error", "short", "form", "many", "1", "2", "3",
		"welcome", "data", "gap", "reject", "floor", "notice", "denied", "evicted", "closed", "pong", "exit",
	} {
		if words[word] < 20 {
			t.Errorf("%s is told %d times", word, words[word])
		}
	}
}

// P1, P18.2: bytes by chance that are mostly no script: Run ends, and tells at most 501 lines.
func TestNoScript(t *testing.T) {
	for seed := range int64(3000) {
		c := chance{rand.New(rand.NewSource(seed))}
		b := make([]byte, c.Intn(2000))
		for i := range b {
			b[i] = byte(c.Intn(256) >> c.Intn(9))
		}
		if c.Intn(2) == 0 {
			b = append(encoded(t, quick), b...)
		}
		tells(t, fmt.Sprintf("seed %d", seed), b, model(b)...)
	}
}

// P18.2: what stands in a script behind an event turns nothing of the lines ahead of it.
func TestAhead(t *testing.T) {
	for seed := range int64(200) {
		c := chance{rand.New(rand.NewSource(seed))}
		list := make([]script.Event, 100)
		for i := range list {
			list[i] = c.event()
		}
		lines := tell.Run(encoded(t, quick, list...))
		for n := range list {
			ahead := tell.Run(encoded(t, quick, list[:n]...))
			if len(ahead) > len(lines) || !slices.Equal(ahead, lines[:len(ahead)]) {
				t.Fatalf("seed %d, %d events: %.300q", seed, n, ahead)
			}
		}
	}
}
