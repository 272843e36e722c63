package script_test

import (
	"fmt"
	"slices"
	"strings"
	"testing"

	"kibitzer/api"
	"kibitzer/conf"
	"kibitzer/script"
)

// decodes holds Decode against what it must tell, and what it told against what is done to the bytes behind that.
func decodes(t *testing.T, why, s string, c conf.Conf, list []script.Event, at int, err api.Errno) {
	t.Helper()
	b := []byte(s)
	gotConf, gotList, gotAt, gotErr := script.Decode(b)
	if string(b) != s {
		t.Fatalf("%s: the bytes are turned", why)
	}
	for i := range b {
		b[i]++
	}
	if gotConf != c || gotAt != at || gotErr != err {
		t.Fatalf("%s: %+v, at %d, %s; not %+v, at %d, %s", why, gotConf, gotAt, gotErr.Word(), c, at, err.Word())
	}
	if !slices.Equal(gotList, list) {
		t.Fatalf("%s: %d events, not %d, or others", why, len(gotList), len(list))
	}
}

// none holds Decode against the error of bytes without a conf.
func none(t *testing.T, why, s string, err api.Errno) {
	t.Helper()
	decodes(t, why, s, conf.Conf{}, nil, 0, err)
}

// nought is so many bytes of a zero.
func nought(n int) string { return strings.Repeat("\x00", n) }

// P16.3: fewer bytes than Head, and just as many.
func TestHead(t *testing.T) {
	if c, list, at, err := script.Decode(nil); c != (conf.Conf{}) || len(list) != 0 || at != 0 || err != api.ErrShort {
		t.Error("nil", c, list, at, err)
	}
	for n := range 24 {
		none(t, fmt.Sprintf("the first %d bytes", n), usual[:n], api.ErrShort)
		none(t, fmt.Sprintf("%d noughts", n), nought(n), api.ErrShort)
	}
	decodes(t, "just Head", usual, conf.Default(), nil, 24, api.OK)
	none(t, "24 noughts", nought(24), api.ErrForm)
}

// P16.3: the conf's numbers, of one, two and three bytes; written out.
func TestConf(t *testing.T) {
	for _, one := range []struct {
		s string
		c conf.Conf
	}{
		{"\x00\x00\x01" + "\x00\x00\x01" + "\x00\x00\xdc" + "\x00\x00\x01" + "\x00\x00\x00" + "\x00\x00\x01" + "\x00\x00\x00" + "\x00\x00\x01",
			conf.Conf{Log: 1, Data: 1, Queue: 220, Input: 1, Strikes: 0, Lease: 1, Idle: 0, Width: 1}},
		{"\x01\x00\x00" + "\x00\x07\xfa" + "\x01\x00\x00" + "\x01\x00\x00" + "\x00\x00\x09" + "\x00\x03\xe8" + "\x00\x03\xe8" + "\x00\x01\xf4",
			conf.Conf{Log: 65536, Data: 2042, Queue: 65536, Input: 65536, Strikes: 9, Lease: 1000, Idle: 1000, Width: 500}},
		{"\x00\x12\x34" + "\x00\x05\x67" + "\x00\x89\xab" + "\x00\xcd\xef" + "\x00\x00\x05" + "\x00\x02\x34" + "\x00\x01\x67" + "\x00\x01\x89",
			conf.Conf{Log: 0x1234, Data: 0x0567, Queue: 0x89ab, Input: 0xcdef, Strikes: 5, Lease: 0x0234, Idle: 0x0167, Width: 0x0189}},
	} {
		decodes(t, "a conf", one.s, one.c, nil, 24, api.OK)
		decodes(t, "a conf and a Tick", one.s+tickBytes(1), one.c, ticks(1), 31, api.OK)
	}
}

// P16.3: a conf that isn't Right, whatever stands behind it.
func TestNoConf(t *testing.T) {
	for _, c := range wrongConfs() {
		s := ""
		for _, n := range []int{c.Log, c.Data, c.Queue, c.Input, c.Strikes, c.Lease, c.Idle, c.Width} {
			s += string([]byte{byte(n >> 16), byte(n >> 8), byte(n)})
		}
		why := fmt.Sprintf("%+v", c)
		none(t, why, s, api.ErrForm)
		none(t, why+", a Tick", s+tickBytes(1), api.ErrForm)
		none(t, why+", an event that is cut off", s+"\x05", api.ErrForm)
		none(t, why+", no event", s+"\x08"+nought(6), api.ErrForm)
		none(t, why+", too many events", s+tickBytes(8193), api.ErrForm)
		none(t, why+", cut off", s[:23], api.ErrShort)
		none(t, why+", too many bytes", s+nought(262144-23), api.ErrLong)
	}
}

// P16.3: each event alone, and all behind each other.
func TestEvents(t *testing.T) {
	var list []script.Event
	all := usual
	for _, c := range cases() {
		decodes(t, brief(c.e), usual+c.b, conf.Default(), []script.Event{c.e}, len(usual+c.b), api.OK)
		list, all = append(list, c.e), all+c.b
	}
	decodes(t, "all", all, conf.Default(), list, len(all), api.OK)
}

// P16.3: a script that is cut off at each of its bytes: what is whole is told, and where the rest begins.
func TestCutOff(t *testing.T) {
	var list []script.Event
	all, begins := usual, 24
	for _, c := range cases() {
		whole := all + c.b
		for n := begins; n < len(whole); n++ {
			err := api.ErrShort
			if n == begins {
				err = api.OK
			}
			decodes(t, fmt.Sprintf("cut off at %d", n), whole[:n], conf.Default(), list, begins, err)
		}
		list, all, begins = append(list, c.e), whole, len(whole)
	}
}

// noEvents are bytes that are whole, and no event.
func noEvents() []struct{ why, b string } {
	return []struct{ why, b string }{
		{"the Kind 8", "\x08" + "\x00" + "\x00\x00\x00" + "\x00\x00"},
		{"the Kind 255", "\xff" + "\x00" + "\x00\x00\x00" + "\x00\x00"},
		{"the Kind 8, with all parts", "\x08" + "\x01" + "\x00\x00\x01" + "\x00\x01" + "x"},
		{"Connect with N", "\x00" + "\x01" + "\x00\x00\x01" + "\x00\x00"},
		{"Connect with N's highest byte", "\x00" + "\x01" + "\x01\x00\x00" + "\x00\x00"},
		{"Connect with Data", "\x00" + "\x01" + "\x00\x00\x00" + "\x00\x01" + "x"},
		{"Bytes with N", "\x01" + "\x01" + "\x00\x00\x01" + "\x00\x01" + "x"},
		{"Bytes with 4001 bytes", "\x01" + "\x01" + "\x00\x00\x00" + "\x0f\xa1" + text(4001)},
		{"Bytes with 65535 bytes", "\x01" + "\x01" + "\x00\x00\x00" + "\xff\xff" + text(65535)},
		{"Write of 65537", "\x02" + "\x01" + "\x01\x00\x01" + "\x00\x00"},
		{"Write of the most that three bytes hold", "\x02" + "\x01" + "\xff\xff\xff" + "\x00\x00"},
		{"Write with Data", "\x02" + "\x01" + "\x00\x00\x00" + "\x00\x01" + "x"},
		{"Output with ID", "\x03" + "\x01" + "\x00\x00\x00" + "\x00\x01" + "x"},
		{"Output with N", "\x03" + "\x00" + "\x00\x00\x01" + "\x00\x01" + "x"},
		{"Output with 4001 bytes", "\x03" + "\x00" + "\x00\x00\x00" + "\x0f\xa1" + text(4001)},
		{"Drain of 65537", "\x04" + "\x00" + "\x01\x00\x01" + "\x00\x00"},
		{"Drain with ID", "\x04" + "\x01" + "\x00\x00\x01" + "\x00\x00"},
		{"Drain with Data", "\x04" + "\x00" + "\x00\x00\x01" + "\x00\x01" + "x"},
		{"Tick with ID", "\x05" + "\x01" + "\x00\x00\x00" + "\x00\x00"},
		{"Tick with N", "\x05" + "\x00" + "\x00\x00\x01" + "\x00\x00"},
		{"Tick with Data", "\x05" + "\x00" + "\x00\x00\x00" + "\x00\x01" + "x"},
		{"Cut with N", "\x06" + "\x01" + "\x00\x00\x01" + "\x00\x00"},
		{"Cut with Data", "\x06" + "\x01" + "\x00\x00\x00" + "\x00\x01" + "x"},
		{"End of 65537", "\x07" + "\x00" + "\x01\x00\x01" + "\x00\x00"},
		{"End with ID", "\x07" + "\x01" + "\x00\x00\x00" + "\x00\x00"},
		{"End with Data", "\x07" + "\x00" + "\x00\x00\x00" + "\x00\x01" + "x"},
	}
}

// ahead are scripts whose events stand ahead of what is tested.
func ahead() []struct {
	s    string
	list []script.Event
} {
	some, s := []script.Event(nil), usual
	for _, c := range cases() {
		some, s = append(some, c.e), s+c.b
	}
	return []struct {
		s    string
		list []script.Event
	}{
		{usual, nil},
		{usual + tickBytes(1), ticks(1)},
		{usual + tickBytes(8191), ticks(8191)},
		{usual + tickBytes(8192), ticks(8192)},
		{s, some},
	}
}

// P16.3: an event that isn't Right, at the first place and behind others, at the end and with more behind it.
func TestNoEvent(t *testing.T) {
	for _, before := range ahead() {
		for _, c := range noEvents() {
			for _, behind := range []string{"", "\x05", tickBytes(1), c.b} {
				decodes(t, c.why, before.s+c.b+behind, conf.Default(), before.list, len(before.s), api.ErrForm)
			}
		}
	}
}

// P16.3: an event that isn't Right and is cut off as well, at each of its bytes: the bytes end within it.
func TestNoEventCutOff(t *testing.T) {
	for _, before := range ahead() {
		for _, c := range noEvents() {
			for n := 1; n < len(c.b); n++ {
				// Of the long ones those at their ends are enough.
				if n < 50 || n > len(c.b)-3 || n == 4000 || n == 4007 {
					decodes(t, fmt.Sprintf("%s, cut off at %d", c.why, n), before.s+c.b[:n], conf.Default(), before.list, len(before.s), api.ErrShort)
				}
			}
		}
	}
}

// P16.3: MaxSteps events, and one more behind them: whole, cut off, or none.
func TestSteps(t *testing.T) {
	for _, n := range []int{8191, 8192} {
		s := usual + tickBytes(n)
		decodes(t, fmt.Sprintf("%d events", n), s, conf.Default(), ticks(n), 24+7*n, api.OK)
	}
	most := usual + tickBytes(8192)
	long := func(why, behind string) {
		t.Helper()
		decodes(t, why, most+behind, conf.Default(), ticks(8192), 57368, api.ErrLong)
	}
	for _, c := range cases() {
		long("one more", c.b)
		long("two more", c.b+c.b)
		long("one more, and one that is cut off", c.b+"\x05")
		long("one more, and none", c.b+"\x08"+nought(6))
		for _, n := range []int{1, 6, len(c.b) - 1} {
			decodes(t, "one more, cut off", most+c.b[:n], conf.Default(), ticks(8192), 57368, api.ErrShort)
		}
	}
	long("as many as fit into a script", tickBytes((262144-57368)/7))
	decodes(t, "one more, none", most+"\x08"+nought(6), conf.Default(), ticks(8192), 57368, api.ErrForm)
	decodes(t, "one more, none and cut off", most+"\x08", conf.Default(), ticks(8192), 57368, api.ErrShort)
}

// P16.3: MaxBytes bytes, and one more, which are told ahead of all else.
func TestMaxBytes(t *testing.T) {
	// 65 events of 4007 bytes, and one of 1665.
	piece := "\x03\x00\x00\x00\x00\x0f\xa0" + text(4000)
	s := usual + strings.Repeat(piece, 65) + "\x03\x00\x00\x00\x00\x06\x7a" + text(1658)
	list := slices.Repeat([]script.Event{{Kind: script.Output, Data: text(4000)}}, 65)
	list = append(list, script.Event{Kind: script.Output, Data: text(1658)})
	if len(s) != 262144 {
		t.Fatal(len(s))
	}
	decodes(t, "MaxBytes", s, conf.Default(), list, 262144, api.OK)
	decodes(t, "one fewer", s[:262143], conf.Default(), list[:65], 24+65*4007, api.ErrShort)

	longer := s[:24+65*4007] + "\x03\x00\x00\x00\x00\x06\x7b" + text(1659)
	if len(longer) != 262145 {
		t.Fatal(len(longer))
	}
	none(t, "one more, whole", longer, api.ErrLong)
	none(t, "one more, cut off", s+"\x05", api.ErrLong)
	none(t, "a whole event more", s+tickBytes(1), api.ErrLong)
	none(t, "one more, of no conf", nought(262145), api.ErrLong)
	none(t, "one more, of no event", usual+strings.Repeat("\xff", 262145-24), api.ErrLong)
	none(t, "one more, of too many events", usual+tickBytes(40000), api.ErrLong)
	none(t, "as many, of no conf", nought(262144), api.ErrForm)
	// These noughts are Connects of 0, cut off at last, or not.
	connects := make([]script.Event, 8192)
	decodes(t, "as many, of noughts", usual+nought(262144-24), conf.Default(), connects, 57368, api.ErrLong)
}
