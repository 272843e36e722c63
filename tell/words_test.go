package tell_test

import (
	"fmt"
	"math"
	"strings"
	"testing"

	"kibitzer/msg"
	"kibitzer/tell"
)

// kindWords are the kinds' words, written out.
var kindWords = []struct {
	kind msg.Kind
	word string
}{
	{msg.Hello, "hello"},
	{msg.Keys, "keys"},
	{msg.Ping, "ping"},
	{msg.Bye, "bye"},
	{msg.Welcome, "welcome"},
	{msg.Data, "data"},
	{msg.Gap, "gap"},
	{msg.Reject, "reject"},
	{msg.Floor, "floor"},
	{msg.Notice, "notice"},
	{msg.Denied, "denied"},
	{msg.Evicted, "evicted"},
	{msg.Closed, "closed"},
	{msg.Pong, "pong"},
	{msg.Exit, "exit"},
}

// Kinds that are none: beside the kinds, far from them, and such as end as a kind does.
var noKinds = []msg.Kind{0, 16, 17, -1, -5, -15, -16, 255, 256, 257, 256 + 15, 1<<32 + 1, math.MaxInt, math.MinInt, math.MinInt + 1}

// P18.1: the word of each kind, in their order.
func TestWord(t *testing.T) {
	for i, k := range kindWords {
		if int(k.kind) != i+1 {
			t.Fatalf("%s is %d", k.word, k.kind)
		}
		if got := tell.Word(k.kind); got != k.word {
			t.Errorf("%d: %q, not %q", k.kind, got, k.word)
		}
	}
}

// P18.1: no text of what is no kind.
func TestNoWord(t *testing.T) {
	for _, k := range noKinds {
		if got := tell.Word(k); got != "" {
			t.Errorf("%d: %q", k, got)
		}
	}
	for k := msg.Kind(-300); k < 600; k++ {
		if got := tell.Word(k); (got != "") != (1 <= k && k <= 15) {
			t.Errorf("%d: %q", k, got)
		}
	}
}

// P18.1: bytes as digits; written out.
func TestHex(t *testing.T) {
	for _, c := range []struct{ bytes, want string }{
		{"", "-"},
		{"-", "2d"},
		{" ", "20"},
		{"\x00", "00"},
		{"\x01", "01"},
		{"\x09", "09"},
		{"\x0a", "0a"},
		{"\x0f", "0f"},
		{"\x10", "10"},
		{"\x7f", "7f"},
		{"\x80", "80"},
		{"\xa0", "a0"},
		{"\xff", "ff"},
		{"\x00\x00", "0000"},
		{"\x12\x34", "1234"},
		{"\x34\x12", "3412"},
		{"a\xff", "61ff"},
		{"owner", "6f776e6572"},
		{"a\nb", "610a62"},
		// Bytes, not runes, be they some or none.
		{"\u00e9\u20ac", "c3a9e282ac"},
		{"\xe2\x82", "e282"},
		{"\xef\xbf\xbd", "efbfbd"},
		{"0123456789:;<=>?", "303132333435363738393a3b3c3d3e3f"},
	} {
		if got := tell.Hex(c.bytes); got != c.want {
			t.Errorf("%q: %q, not %q", c.bytes, got, c.want)
		}
	}
}

// P18.1: each byte, alone and amid others.
func TestHexOfEach(t *testing.T) {
	var all []byte
	for c := range 256 {
		one := string([]byte{byte(c)})
		if got, want := tell.Hex(one), fmt.Sprintf("%02x", c); got != want {
			t.Errorf("%d: %q, not %q", c, got, want)
		}
		all = append(all, byte(c))
	}
	if got, want := tell.Hex(string(all)), fmt.Sprintf("%x", all); got != want || len(got) != 512 {
		t.Errorf("%q, not %q", got, want)
	}
	long := strings.Repeat(string(all), 300)
	if tell.Hex(long) != fmt.Sprintf("%x", long) {
		t.Error("of many bytes")
	}
}

// P18.1: a message of each kind, with a Text and without; written out. Message asks not whether it is Right.
func TestMessage(t *testing.T) {
	for _, c := range []struct {
		m    msg.Msg
		want string
	}{
		{msg.Msg{Kind: msg.Hello, A: 5, B: 100, Text: "ann"}, "hello 5 100 616e6e"},
		{msg.Msg{Kind: msg.Hello, A: 5}, "hello 5 0 -"},
		{msg.Msg{Kind: msg.Keys, A: 1, Text: "\x1d:floor\n"}, "keys 1 0 1d3a666c6f6f720a"},
		{msg.Msg{Kind: msg.Keys}, "keys 0 0 -"},
		{msg.Msg{Kind: msg.Ping}, "ping 0 0 -"},
		{msg.Msg{Kind: msg.Bye}, "bye 0 0 -"},
		{msg.Msg{Kind: msg.Welcome, A: 16, B: 1 << 40, Text: "owner"}, "welcome 16 1099511627776 6f776e6572"},
		{msg.Msg{Kind: msg.Welcome, A: 1}, "welcome 1 0 -"},
		{msg.Msg{Kind: msg.Data, A: 3, Text: "a\xff"}, "data 3 0 61ff"},
		{msg.Msg{Kind: msg.Data, A: 12}, "data 12 0 -"},
		{msg.Msg{Kind: msg.Gap, A: 1, B: 258}, "gap 1 258 -"},
		{msg.Msg{Kind: msg.Gap, B: 7}, "gap 0 7 -"},
		{msg.Msg{Kind: msg.Reject, A: 2, B: 4}, "reject 2 4 -"},
		{msg.Msg{Kind: msg.Floor, A: 11}, "floor 11 0 -"},
		{msg.Msg{Kind: msg.Notice, Text: "left 3"}, "notice 0 0 6c6566742033"},
		{msg.Msg{Kind: msg.Notice}, "notice 0 0 -"},
		{msg.Msg{Kind: msg.Denied, Text: "\x00"}, "denied 0 0 00"},
		{msg.Msg{Kind: msg.Denied}, "denied 0 0 -"},
		{msg.Msg{Kind: msg.Evicted}, "evicted 0 0 -"},
		{msg.Msg{Kind: msg.Closed, A: 6}, "closed 6 0 -"},
		{msg.Msg{Kind: msg.Pong}, "pong 0 0 -"},
		{msg.Msg{Kind: msg.Exit, A: 255}, "exit 255 0 -"},
		// What no kind has is told, too.
		{msg.Msg{Kind: msg.Ping, A: -1, B: 10, Text: "-"}, "ping -1 10 2d"},
		{msg.Msg{Kind: msg.Pong, B: -20}, "pong 0 -20 -"},
		{msg.Msg{}, " 0 0 -"},
		{msg.Msg{Kind: 16, A: 1, B: 2, Text: "x"}, " 1 2 78"},
		{msg.Msg{Kind: -1, Text: " "}, " 0 0 20"},
	} {
		if got := tell.Message(c.m); got != c.want {
			t.Errorf("%+v: %q, not %q", c.m, got, c.want)
		}
	}
}

// numbers are such with one digit and more, below 0, and the greatest, and how they are told.
var numbers = []struct {
	n    int64
	want string
}{
	{0, "0"},
	{1, "1"},
	{9, "9"},
	{10, "10"},
	{99, "99"},
	{100, "100"},
	{1234567890, "1234567890"},
	{1 << 40, "1099511627776"},
	{1<<40 + 1, "1099511627777"},
	{-1, "-1"},
	{-10, "-10"},
	{-120, "-120"},
	{math.MaxInt32 + 1, "2147483648"},
	{math.MaxInt64, "9223372036854775807"},
	{math.MinInt64, "-9223372036854775808"},
}

// P18.1: the numbers of a message of each kind, and of none.
func TestNumbers(t *testing.T) {
	kinds := kindWords
	for _, k := range noKinds {
		kinds = append(kinds, struct {
			kind msg.Kind
			word string
		}{k, ""})
	}
	for _, k := range kinds {
		for _, a := range numbers {
			for _, b := range numbers {
				m := msg.Msg{Kind: k.kind, A: a.n, B: b.n}
				if got, want := tell.Message(m), k.word+" "+a.want+" "+b.want+" -"; got != want {
					t.Errorf("%q, not %q", got, want)
				}
				m.Text = "\x0a\xb1"
				if got, want := tell.Message(m), k.word+" "+a.want+" "+b.want+" 0ab1"; got != want {
					t.Errorf("%q, not %q", got, want)
				}
			}
		}
	}
}

// P18.1: a Text of more bytes than a message may have.
func TestLongText(t *testing.T) {
	long := strings.Repeat("\x5a", 3000)
	if got, want := tell.Message(msg.Msg{Kind: msg.Data, Text: long}), "data 0 0 "+strings.Repeat("5a", 3000); got != want {
		t.Errorf("%d bytes, not %d", len(got), len(want))
	}
}
