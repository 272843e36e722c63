package tell_test

import (
	"fmt"
	"slices"
	"strings"
	"testing"

	"kibitzer/api"
	"kibitzer/conf"
	"kibitzer/msg"
	"kibitzer/script"
	"kibitzer/tell"
)

// quick is a conf of which little is enough: who sends nothing for three ticks is shut.
var quick = conf.Conf{Log: 100, Data: 50, Queue: 400, Input: 10, Strikes: 1, Lease: 2, Idle: 3, Width: 10}

// All that may wait.
const all = 65536

// What happens.

func connect(id int) script.Event { return script.Event{Kind: script.Connect, ID: id} }

func bytes(id int, data string) script.Event {
	return script.Event{Kind: script.Bytes, ID: id, Data: data}
}

func write(id, n int) script.Event { return script.Event{Kind: script.Write, ID: id, N: n} }

func output(data string) script.Event { return script.Event{Kind: script.Output, Data: data} }

func drain(n int) script.Event { return script.Event{Kind: script.Drain, N: n} }

func tick() script.Event { return script.Event{Kind: script.Tick} }

func cut(id int) script.Event { return script.Event{Kind: script.Cut, ID: id} }

func end(code int) script.Event { return script.Event{Kind: script.End, N: code} }

// What a connection sends.

func says(m msg.Msg) string { return string(msg.Put(nil, m)) }

func hello(a int64, name string) string { return says(msg.Msg{Kind: msg.Hello, A: a, Text: name}) }

func keys(text string) string { return says(msg.Msg{Kind: msg.Keys, A: 9, Text: text}) }

func ping() string { return says(msg.Msg{Kind: msg.Ping}) }

func bye() string { return says(msg.Msg{Kind: msg.Bye}) }

// step is an event, and the lines that must be told of it.
type step struct {
	event script.Event
	lines []string
}

// does is a step.
func does(e script.Event, lines ...string) step { return step{e, lines} }

// taken is a Write of all that waits for a connection, and the messages that must be whole by it.
func taken(id, bytes int, messages ...string) step {
	lines := []string{fmt.Sprintf("wrote %d", bytes)}
	for _, m := range messages {
		lines = append(lines, fmt.Sprintf("%d %s", id, m))
	}
	return step{write(id, all), lines}
}

// encoded is a script's bytes.
func encoded(t *testing.T, c conf.Conf, list ...script.Event) []byte {
	t.Helper()
	b, err := script.Encode(c, list)
	if err != api.OK {
		t.Fatal(err.Word())
	}
	return b
}

// events are the events of steps.
func events(steps []step) []script.Event {
	var list []script.Event
	for _, s := range steps {
		list = append(list, s.event)
	}
	return list
}

// course is a script's bytes of steps, and all their lines.
func course(t *testing.T, c conf.Conf, steps ...step) ([]byte, []string) {
	t.Helper()
	var lines []string
	for _, s := range steps {
		lines = append(lines, s.lines...)
	}
	return encoded(t, c, events(steps)...), lines
}

// tells holds Run against the lines that must be told.
func tells(t *testing.T, why string, data []byte, want ...string) {
	t.Helper()
	in := slices.Clone(data)
	got := tell.Run(in)
	if !slices.Equal(in, data) {
		t.Fatalf("%s: the bytes are turned", why)
	}
	// They aren't kept, either, and nobody else's lines are turned.
	clear(in)
	for range 2 {
		for i, line := range want {
			if i >= len(got) || got[i] != line {
				t.Fatalf("%s: line %d is %q, not %q; told are %.300q", why, i, got[min(i, len(got)):min(i+1, len(got))], line, got)
			}
		}
		if len(got) != len(want) {
			t.Fatalf("%s: %d lines, not %d: %.300q", why, len(got), len(want), got[len(want):])
		}
		clear(got)
		got = tell.Run(data)
	}
}

// goes holds Run of a script's steps against their lines.
func goes(t *testing.T, why string, c conf.Conf, steps ...step) {
	t.Helper()
	b, lines := course(t, c, steps...)
	tells(t, why, b, lines...)
}

// P18.2: bytes of which there is no conf.
func TestNoConf(t *testing.T) {
	tells(t, "nil", nil, "error short at 0")
	tells(t, "no bytes", []byte{}, "error short at 0")
	whole := encoded(t, quick, connect(1), write(1, 1))
	for n := range 24 {
		tells(t, fmt.Sprintf("%d bytes", n), whole[:n], "error short at 0")
	}
	tells(t, "noughts, too few", make([]byte, 23), "error short at 0")
	tells(t, "noughts", make([]byte, 24), "error form at 0")
	for i := 0; i < 24; i += 3 {
		b := slices.Clone(whole)
		b[i] = 2
		tells(t, fmt.Sprintf("a conf that isn't Right at %d", i), b, "error form at 0")
		tells(t, fmt.Sprintf("a conf alone that isn't Right at %d", i), b[:24], "error form at 0")
	}
	most := append(encoded(t, quick), make([]byte, 1<<18-24)...)
	tells(t, "too many bytes", append(most, 0), "error long at 0")
	tells(t, "too many bytes, and no conf", make([]byte, 1<<18+1), "error long at 0")
	tells(t, "as many bytes as may be, and no conf", make([]byte, 1<<18), "error form at 0")
}

// P18.2: a conf alone: nothing is told.
func TestConfAlone(t *testing.T) {
	tells(t, "quick", encoded(t, quick))
	tells(t, "the default", encoded(t, conf.Default()))
}

// P18.2: the document's example of the whole: 10, as lines.
func TestExample(t *testing.T) {
	goes(t, "example 10", conf.Default(),
		does(connect(1), "ok"),
		does(bytes(1, hello(5, "a")), "ok"),
		taken(1, 33, "welcome 1 0 6f776e6572", "floor 0 0 -"),
		does(bytes(1, keys("\x1d:floor\n")), "ok"),
		taken(1, 11, "floor 1 0 -"),
	)
}

// each is a course in which each kind of event is told OK, and each error that it can tell in a script.
func each() []step {
	return []step{
		does(connect(0), "arg"),
		does(connect(17), "arg"),
		does(connect(255), "arg"),
		does(bytes(0, "x"), "none"),
		does(write(0, 1), "none"),
		does(cut(0), "none"),
		does(connect(1), "ok"),
		does(connect(1), "state"),
		does(bytes(2, hello(5, "b")), "none"),
		does(write(2, 9), "none"),
		does(write(255, 0), "none"),
		does(cut(2), "none"),
		does(write(1, all), "wrote 0"),
		does(bytes(1, ""), "ok"),
		does(bytes(1, hello(5, "a")), "ok"),
		does(connect(16), "ok"),
		does(bytes(16, hello(4, "b")), "ok"),
		does(drain(all), "drained -"),
		does(bytes(1, keys("\x1d:floor\n")+keys("ab")+keys("\x00\xff")), "ok"),
		does(drain(0), "drained -"),
		does(drain(3), "drained 616200"),
		does(drain(all), "drained ff"),
		does(drain(1), "drained -"),
		does(output("hi"), "ok"),
		does(output(""), "ok"),
		does(tick(), "ok"),
		does(tick(), "ok"),
		does(bytes(1, ping()), "ok"),
		does(tick(), "ok"),
		// The user 16 has said nothing for three ticks.
		does(bytes(16, ping()), "state"),
		does(connect(16), "state"),
		taken(16, 71, "welcome 16 0 6f62736572766572", "floor 0 0 -", "floor 1 0 -", "data 0 0 6869", "closed 6 0 -"),
		does(write(16, all), "none"),
		does(cut(16), "none"),
		taken(1, 90,
			"welcome 1 0 6f776e6572", "floor 0 0 -", "notice 0 0 6a6f696e65642031362062",
			"floor 1 0 -", "data 0 0 6869", "pong 0 0 -", "notice 0 0 6c656674203136"),
		does(end(256), "arg"),
		does(end(65536), "arg"),
		does(end(255), "ok"),
		does(end(0), "state"),
		does(end(256), "state"),
		does(output("more"), "state"),
		does(output(""), "state"),
		taken(1, 11, "exit 255 0 -"),
		does(bytes(1, keys("late")), "ok"),
		does(drain(all), "drained -"),
		taken(1, 17, "reject 9 1 -"),
		does(cut(1), "ok"),
		does(cut(1), "none"),
		does(write(1, all), "none"),
		does(tick(), "ok"),
	}
}

// P18.2: each kind of event, told OK and told each error that it can tell.
func TestEach(t *testing.T) {
	goes(t, "each", quick, each()...)
}

// P18.2: messages of each kind that a broker sends.
func TestEachMessage(t *testing.T) {
	goes(t, "each message", quick,
		does(connect(1), "ok"),
		does(connect(2), "ok"),
		does(bytes(1, hello(5, "a")), "ok"),
		does(bytes(2, hello(5, "b")+keys("x\x1d:none\n\x1d:list\n")+ping()), "ok"),
		taken(2, 94,
			"welcome 2 0 777269746572", "floor 0 0 -", "reject 9 4 -", "denied 0 0 6e6f6e65",
			"notice 0 0 31206f776e65722061", "notice 0 0 32207772697465722062", "pong 0 0 -"),
		does(output(strings.Repeat("x", 300)), "ok"),
		taken(2, 139, "gap 0 200 -", "data 200 0 "+strings.Repeat("78", 50), "data 250 0 "+strings.Repeat("78", 50)),
		does(output(strings.Repeat("y", 101)), "ok"),
		// The user 1 was sent it ahead of the user 2, who is told so.
		taken(2, 16, "notice 0 0 6c6566742031", "evicted 0 0 -"),
		does(write(2, all), "none"),
	)
}

// The messages that wait for one who said hello(5, "a") and saw "hi": where each ends, and how it is told.
var (
	ends     = []int{22, 33, 46}
	messages = []string{"1 welcome 1 0 6f776e6572", "1 floor 0 0 -", "1 data 0 0 6869"}
)

// waits are steps behind which these messages wait for the connection 1.
func waits() []step {
	return []step{
		does(connect(1), "ok"),
		does(bytes(1, hello(5, "a")), "ok"),
		does(output("hi"), "ok"),
	}
}

// part is a Write to the connection 1 of the bytes from one number on up to another, and its messages.
func part(from, to int) step {
	lines := []string{fmt.Sprintf("wrote %d", to-from)}
	for i, end := range ends {
		if from < end && end <= to {
			lines = append(lines, messages[i])
		}
	}
	return does(write(1, to-from), lines...)
}

// P18.2: a message is told behind the Write that made it whole, and once, wherever what is written is cut in two.
func TestTwoWrites(t *testing.T) {
	for n := range 47 {
		steps := append(waits(), part(0, n), part(n, 46), does(write(1, 0), "wrote 0"), does(write(1, 1), "wrote 0"))
		goes(t, fmt.Sprintf("cut at %d", n), quick, steps...)
	}
}

// P18.2: the same, cut in three: parts of a frame, frames and a part of one, and what happens between turns nothing.
func TestThreeWrites(t *testing.T) {
	for n := range 47 {
		for m := n; m < 47; m++ {
			steps := append(waits(),
				part(0, n), does(write(1, 0), "wrote 0"), does(drain(1), "drained -"), does(connect(1), "state"),
				part(n, m), does(tick(), "ok"), does(write(2, all), "none"), does(cut(2), "none"),
				part(m, 46))
			goes(t, fmt.Sprintf("cut at %d and %d", n, m), quick, steps...)
		}
	}
}

// P18.2: byte by byte.
func TestByteByByte(t *testing.T) {
	steps := waits()
	for n := range 46 {
		steps = append(steps, part(n, n+1))
	}
	goes(t, "byte by byte", quick, append(steps, does(write(1, 1), "wrote 0"))...)
}

// P18.2: Writes of no bytes, of a part of a frame, of its rest, of several frames, and of frames and a part; written out.
func TestWrites(t *testing.T) {
	goes(t, "writes", quick, append(waits(),
		does(write(1, 0), "wrote 0"),
		does(write(1, 10), "wrote 10"),
		does(write(1, 11), "wrote 11"),
		does(write(1, 1), "wrote 1", "1 welcome 1 0 6f776e6572"),
		does(write(1, 0), "wrote 0"),
		does(write(1, 24), "wrote 24", "1 floor 0 0 -", "1 data 0 0 6869"),
		does(bytes(1, ping()+ping()+ping()), "ok"),
		does(write(1, 12), "wrote 12", "1 pong 0 0 -", "1 pong 0 0 -"),
		does(output("j"), "ok"),
		does(write(1, all), "wrote 15", "1 pong 0 0 -", "1 data 2 0 6a"),
	)...)
}

// P18.2: Writes to two connections by turns: each has its own frames, and its own number.
func TestByTurns(t *testing.T) {
	for _, other := range []int{2, 16} {
		for n := 1; n < 22; n++ {
			goes(t, fmt.Sprintf("%d, cut at %d", other, n), quick,
				does(connect(1), "ok"),
				does(connect(other), "ok"),
				does(bytes(1, hello(5, "a")), "ok"),
				does(bytes(other, hello(4, "b")), "ok"),
				does(write(1, n), fmt.Sprintf("wrote %d", n)),
				does(write(other, 24), "wrote 24"),
				does(write(1, 22-n), fmt.Sprintf("wrote %d", 22-n), "1 welcome 1 0 6f776e6572"),
				does(write(1, 5), "wrote 5"),
				does(write(other, 2), "wrote 2", fmt.Sprintf("%d welcome %d 0 6f62736572766572", other, other)),
				does(write(other, 9), "wrote 9"),
				does(write(1, 6), "wrote 6", "1 floor 0 0 -"),
				does(write(other, 1), "wrote 1", fmt.Sprintf("%d floor 0 0 -", other)),
			)
		}
	}
}

// P18.2: a connection that was closed and made anew in the midst of a frame: nothing of what was written ahead counts.
func TestAnew(t *testing.T) {
	for n := range 47 {
		steps := append(waits(),
			part(0, n),
			does(cut(1), "ok"),
			does(write(1, all), "none"),
			does(connect(1), "ok"),
			does(write(1, all), "wrote 0"),
			does(bytes(1, hello(5, "a")), "ok"),
			taken(1, 33, "welcome 1 2 6f776e6572", "floor 0 0 -"))
		goes(t, fmt.Sprintf("cut at %d", n), quick, steps...)
	}
}

// P18.2: the same twice, and made anew by a rest that would go with what was written ahead: the messages are the same ones.
func TestAnewTwice(t *testing.T) {
	again := func(n int) []step {
		return []step{
			does(connect(1), "ok"),
			does(bytes(1, hello(5, "a")), "ok"),
			does(write(1, n), fmt.Sprintf("wrote %d", n)),
			does(cut(1), "ok"),
		}
	}
	for n := range 22 {
		for m := range 22 {
			steps := append(again(n), again(m)...)
			steps = append(steps, waits()...)
			goes(t, fmt.Sprintf("cut at %d and %d", n, m), quick, append(steps, part(0, 46))...)
		}
	}
}

// P18.2: another connection that is made, or made anew, turns nothing of this one.
func TestOtherAnew(t *testing.T) {
	for n := range 47 {
		steps := append(waits(),
			part(0, n),
			does(connect(2), "ok"),
			does(cut(2), "ok"),
			does(connect(2), "ok"),
			part(n, 46))
		goes(t, fmt.Sprintf("cut at %d", n), quick, steps...)
	}
}

// P18.2: a Connect that is refused in the midst of a frame: what was written ahead counts.
func TestRefusedAnew(t *testing.T) {
	for n := range 47 {
		steps := append(waits(),
			part(0, n),
			does(connect(1), "state"),
			does(connect(1), "state"),
			does(connect(0), "arg"),
			does(connect(17), "arg"),
			part(n, 46))
		goes(t, fmt.Sprintf("cut at %d", n), quick, steps...)
	}
	// Of one that is closing, too.
	for n := range 12 {
		goes(t, fmt.Sprintf("closing, cut at %d", n), quick,
			does(connect(1), "ok"),
			does(bytes(1, bye()), "ok"),
			does(write(1, min(n, 10)), fmt.Sprintf("wrote %d", min(n, 10))),
			does(connect(1), "state"),
			does(write(1, all), fmt.Sprintf("wrote %d", 11-min(n, 10)), "1 closed 4 0 -"),
			does(write(1, all), "none"),
			does(connect(1), "ok"),
		)
	}
}

// P18.2: Drain of no bytes, of fewer than wait, of as many, and of more.
func TestDrain(t *testing.T) {
	typed := []step{
		does(connect(1), "ok"),
		does(bytes(1, hello(5, "a")+keys("\x1d:floor\n")+keys("ab\x1d\x1dc\x00")), "ok"),
	}
	for n, told := range []string{"-", "61", "6162", "61621d", "61621d63", "61621d6300", "61621d6300", "61621d6300"} {
		rest := []string{"61621d6300", "621d6300", "1d6300", "6300", "00", "-", "-", "-"}[n]
		steps := append(slices.Clone(typed),
			does(drain(n), "drained "+told),
			does(drain(all), "drained "+rest),
			does(drain(all), "drained -"))
		goes(t, fmt.Sprintf("drain of %d", n), quick, steps...)
	}
}

// P18.2: a script that is cut off at each of its bytes: the lines of what is whole, and where the rest begins.
func TestCutOff(t *testing.T) {
	b, _ := course(t, quick, each()...)
	var ahead []string
	begins := 24
	for i, s := range each() {
		end := begins + 7 + len(s.event.Data)
		tells(t, fmt.Sprintf("%d events", i), b[:begins], ahead...)
		for n := begins + 1; n < end; n++ {
			tells(t, fmt.Sprintf("cut off at %d", n), b[:n], append(slices.Clone(ahead), fmt.Sprintf("error short at %d", begins))...)
		}
		ahead = append(ahead, s.lines...)
		begins = end
	}
}

// P18.2: an event that isn't Right at each place of a script: the lines of those ahead, where it begins, and nothing behind it.
func TestNoEvent(t *testing.T) {
	for _, event := range []string{
		"\x08\x00\x00\x00\x00\x00\x00",
		"\x00\x03\x00\x00\x01\x00\x00",
		"\x05\x00\x00\x00\x00\x00\x01x",
		"\x04\x00\x01\x00\x01\x00\x00",
	} {
		for i := range len(each()) + 1 {
			ahead, lines := course(t, quick, each()[:i]...)
			lines = append(lines, fmt.Sprintf("error form at %d", len(ahead)))
			b := append(ahead, event...)
			tells(t, fmt.Sprintf("%x at %d, at the end", event, i), b, lines...)
			rest, _ := course(t, quick, each()[i:]...)
			tells(t, fmt.Sprintf("%x at %d, amid others", event, i), append(b, rest[24:]...), lines...)
		}
	}
}

// P18.2: the number of a byte has as many digits as it needs.
func TestAt(t *testing.T) {
	for _, n := range []int{0, 1, 68, 69, 968, 969, 4000} {
		b := encoded(t, quick, output(strings.Repeat("x", n)))
		tells(t, fmt.Sprint(n), append(b, 5), "ok", fmt.Sprintf("error short at %d", 31+n))
		tells(t, fmt.Sprint(n), append(b, 9, 0, 0, 0, 0, 0, 0), "ok", fmt.Sprintf("error form at %d", 31+n))
	}
}
