package tell_test

import (
	"fmt"
	"slices"
	"strings"
	"testing"

	"kibitzer/conf"
	"kibitzer/script"
)

// wide is a conf whose queues have room for much.
var wide = conf.Conf{Log: 65536, Data: 10, Queue: 65536, Input: 65536, Strikes: 1, Lease: 2, Idle: 0, Width: 10}

// ticks are so many steps of one line each.
func ticks(n int) []step { return slices.Repeat([]step{does(tick(), "ok")}, n) }

// pongs is a Write of so many of them.
func pongs(n int) step {
	lines := append([]string{fmt.Sprintf("wrote %d", 5*n)}, slices.Repeat([]string{"1 pong 0 0 -"}, n)...)
	return step{write(1, 5*n), lines}
}

// upTo500 is lines as they are told: many in place of the 501st, and nothing behind it.
func upTo500(lines []string) []string {
	if len(lines) <= 500 {
		return lines
	}
	return append(slices.Clone(lines[:500]), "many")
}

// P18.2: so many events of one line each, around 500; the last lines differ from those ahead.
func TestManyEvents(t *testing.T) {
	for _, n := range []int{1, 250, 498, 499, 500, 501, 502, 503, 600, 1000, 1001, 8191, 8192} {
		steps := ticks(n)
		if n >= 2 {
			steps[n-1] = does(write(3, 1), "none")
			steps[n-2] = does(connect(0), "arg")
		}
		b, lines := course(t, quick, steps...)
		tells(t, fmt.Sprintf("%d events", n), b, upTo500(lines)...)
	}
}

// P18.2: 500 lines, and 501; written out.
func TestLimit(t *testing.T) {
	oks := slices.Repeat([]string{"ok"}, 500)
	five := encoded(t, quick, slices.Repeat([]script.Event{tick()}, 500)...)
	tells(t, "500", five, oks...)
	tells(t, "the error is the 501st", append(slices.Clone(five), 5), append(slices.Clone(oks), "many")...)
	tells(t, "499, and the error", append(slices.Clone(five[:len(five)-7]), 5), append(slices.Clone(oks[:499]), "error short at 3517")...)
	tells(t, "498, and the error", append(slices.Clone(five[:len(five)-14]), 5), append(slices.Clone(oks[:498]), "error short at 3510")...)
	tells(t, "501", append(slices.Clone(five), 5, 0, 0, 0, 0, 0, 0), append(slices.Clone(oks), "many")...)
	tells(t, "501, the last refused", append(slices.Clone(five), 6, 1, 0, 0, 0, 0, 0), append(slices.Clone(oks), "many")...)
	tells(t, "501, and the error", append(slices.Clone(five), 5, 0, 0, 0, 0, 0, 0, 5), append(slices.Clone(oks), "many")...)
	tells(t, "501, no event", append(slices.Clone(five), 8, 0, 0, 0, 0, 0, 0), append(slices.Clone(oks), "many")...)
}

// P18.2: too many events: many stands behind the lines of those ahead, so that the error can't be told.
func TestTooManyEvents(t *testing.T) {
	b, lines := course(t, quick, ticks(8192)...)
	want := upTo500(lines)
	tells(t, "one more", append(slices.Clone(b), 5, 0, 0, 0, 0, 0, 0), want...)
	tells(t, "one more, cut off", append(slices.Clone(b), 5), want...)
	tells(t, "one more, none", append(slices.Clone(b), 8, 0, 0, 0, 0, 0, 0), want...)
}

// asked are steps behind which so many Pongs wait for the connection 1.
func asked(n int) []step {
	steps := []step{
		does(connect(1), "ok"),
		does(bytes(1, hello(5, "a")), "ok"),
		does(write(1, all), "wrote 33", "1 welcome 1 0 6f776e6572", "1 floor 0 0 -"),
	}
	for ; n > 0; n -= 800 {
		steps = append(steps, does(bytes(1, strings.Repeat(ping(), min(n, 800))), "ok"))
	}
	return steps
}

// P18.2: the 501st line is each one of a Write, of its first to its last message, and what is behind it isn't told.
func TestManyMessages(t *testing.T) {
	for ahead := 480; ahead <= 500; ahead++ {
		steps := append(ticks(ahead), asked(5)...)
		steps = append(steps, pongs(2), pongs(1), does(drain(1), "drained -"), pongs(2), does(cut(2), "none"))
		b, lines := course(t, wide, steps...)
		tells(t, fmt.Sprintf("%d ahead", ahead), b, upTo500(lines)...)
		lines = append(lines, fmt.Sprintf("error short at %d", len(b)))
		tells(t, fmt.Sprintf("%d ahead, and the error", ahead), append(b, 1), upTo500(lines)...)
	}
}

// P18.2: one Write of many messages.
func TestOneWrite(t *testing.T) {
	for _, n := range []int{1, 400, 490, 491, 492, 493, 494, 495, 500, 501, 1000, 8000} {
		b, lines := course(t, wide, append(asked(n), pongs(n))...)
		tells(t, fmt.Sprintf("%d messages", n), b, upTo500(lines)...)
		b, lines = course(t, wide, append(asked(n), pongs(n), does(end(256), "arg"))...)
		tells(t, fmt.Sprintf("%d messages, and an event", n), b, upTo500(lines)...)
		lines = append(lines, fmt.Sprintf("error form at %d", len(b)))
		tells(t, fmt.Sprintf("%d messages, an event, and the error", n), append(b, 8, 0, 0, 0, 0, 0, 0), upTo500(lines)...)
	}
}

// P18.2: behind the 501st line nothing is told, however much comes of the events there.
func TestMuchBehind(t *testing.T) {
	steps := append(asked(0), does(output(strings.Repeat("x", 4000)), "ok"))
	steps = append(steps, ticks(494)...)
	b, lines := course(t, wide, steps...)
	if len(lines) != 500 {
		t.Fatal(len(lines))
	}
	tells(t, "none behind", b, lines...)
	for range 3000 {
		steps = append(steps, does(bytes(1, keys("\x1d:replay 4000\n"))), does(write(1, all)))
	}
	b, _ = course(t, wide, steps...)
	tells(t, "much behind", b, append(lines, "many")...)
}
