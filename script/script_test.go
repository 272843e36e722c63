package script_test

import (
	"fmt"
	"math"
	"strings"
	"testing"

	"kibitzer/api"
	"kibitzer/conf"
	"kibitzer/script"
)

// kind is what the document says of a Kind: its number, and which parts its events have.
type kind struct {
	name                 string
	kind                 script.Kind
	number               byte
	hasID, hasN, hasData bool
}

func kinds() []kind {
	return []kind{
		{"Connect", script.Connect, 0, true, false, false},
		{"Bytes", script.Bytes, 1, true, false, true},
		{"Write", script.Write, 2, true, true, false},
		{"Output", script.Output, 3, false, false, true},
		{"Drain", script.Drain, 4, false, true, false},
		{"Tick", script.Tick, 5, false, false, false},
		{"Cut", script.Cut, 6, true, false, false},
		{"End", script.End, 7, false, true, false},
	}
}

// text is a text of so many bytes.
func text(n int) string { return strings.Repeat("x", n) }

// brief is an event as it is told where a test fails.
func brief(e script.Event) string {
	return fmt.Sprintf("Kind %d, ID %d, N %d, %d bytes", e.Kind, e.ID, e.N, len(e.Data))
}

// is holds Right against what it must tell, and sees to it that it turns nothing.
func is(t *testing.T, e script.Event, want bool) {
	t.Helper()
	was := e
	if e.Right() != want || e != was {
		t.Errorf("%s: Right isn't %v", brief(was), want)
	}
}

// far are numbers far away from all bounds; some of them would be within, if but their lowest bits counted, or no sign.
func far() []int {
	list := []int{math.MinInt, math.MaxInt, math.MinInt + 1, math.MaxInt - 1}
	for _, n := range []int{0, 1, 5, 7, 255, 65536} {
		list = append(list, -n-1, math.MinInt+n)
		for _, turn := range []int{1 << 17, 1 << 24, 1 << 31, 1 << 32, 1 << 48, 1 << 62} {
			list = append(list, turn+n, -turn+n, -turn-n)
		}
	}
	return list
}

// P16.1: the numbers of the kinds, MaxData, Head and Over, which have no types of their own, and the limits.
func TestNumbers(t *testing.T) {
	for _, k := range kinds() {
		if k.kind != script.Kind(k.number) {
			t.Errorf("%s is %d", k.name, k.kind)
		}
	}
	const data, head, over int16 = script.MaxData, script.Head, script.Over
	if data != 4000 || head != 24 || over != 7 {
		t.Error(data, head, over)
	}
	if api.MaxSteps != 8192 || api.MaxBytes != 262144 || api.MaxCap != 65536 {
		t.Error("the limits aren't the document's")
	}
}

// P16.1: each Kind at its bounds and one beyond; written out.
func TestBounds(t *testing.T) {
	const most, above = 65536, 65537
	for _, c := range []struct {
		e    script.Event
		want bool
	}{
		{script.Event{}, true},
		{script.Event{Kind: -1}, false},
		{script.Event{Kind: 7}, true},
		{script.Event{Kind: 8}, false},

		{script.Event{Kind: script.Connect, ID: -1}, false},
		{script.Event{Kind: script.Connect, ID: 0}, true},
		{script.Event{Kind: script.Connect, ID: 255}, true},
		{script.Event{Kind: script.Connect, ID: 256}, false},
		{script.Event{Kind: script.Connect, ID: 1, N: 1}, false},
		{script.Event{Kind: script.Connect, ID: 1, N: -1}, false},
		{script.Event{Kind: script.Connect, ID: 1, Data: "x"}, false},

		{script.Event{Kind: script.Bytes, ID: -1, Data: "x"}, false},
		{script.Event{Kind: script.Bytes, ID: 0, Data: "x"}, true},
		{script.Event{Kind: script.Bytes, ID: 255, Data: "x"}, true},
		{script.Event{Kind: script.Bytes, ID: 256, Data: "x"}, false},
		{script.Event{Kind: script.Bytes, ID: 1}, true},
		{script.Event{Kind: script.Bytes, ID: 1, Data: text(4000)}, true},
		{script.Event{Kind: script.Bytes, ID: 1, Data: text(4001)}, false},
		{script.Event{Kind: script.Bytes, ID: 1, N: 1, Data: "x"}, false},
		{script.Event{Kind: script.Bytes, ID: 1, N: -1, Data: "x"}, false},

		{script.Event{Kind: script.Write, ID: -1, N: 1}, false},
		{script.Event{Kind: script.Write, ID: 0, N: 1}, true},
		{script.Event{Kind: script.Write, ID: 255, N: 1}, true},
		{script.Event{Kind: script.Write, ID: 256, N: 1}, false},
		{script.Event{Kind: script.Write, ID: 1, N: -1}, false},
		{script.Event{Kind: script.Write, ID: 1, N: 0}, true},
		{script.Event{Kind: script.Write, ID: 1, N: most}, true},
		{script.Event{Kind: script.Write, ID: 1, N: above}, false},
		{script.Event{Kind: script.Write, ID: 1, N: 1, Data: "x"}, false},

		{script.Event{Kind: script.Output}, true},
		{script.Event{Kind: script.Output, Data: text(4000)}, true},
		{script.Event{Kind: script.Output, Data: text(4001)}, false},
		{script.Event{Kind: script.Output, ID: 1, Data: "x"}, false},
		{script.Event{Kind: script.Output, ID: -1, Data: "x"}, false},
		{script.Event{Kind: script.Output, N: 1, Data: "x"}, false},
		{script.Event{Kind: script.Output, N: -1, Data: "x"}, false},

		{script.Event{Kind: script.Drain, N: -1}, false},
		{script.Event{Kind: script.Drain, N: 0}, true},
		{script.Event{Kind: script.Drain, N: most}, true},
		{script.Event{Kind: script.Drain, N: above}, false},
		{script.Event{Kind: script.Drain, N: 1, ID: 1}, false},
		{script.Event{Kind: script.Drain, N: 1, ID: -1}, false},
		{script.Event{Kind: script.Drain, N: 1, Data: "x"}, false},

		{script.Event{Kind: script.Tick}, true},
		{script.Event{Kind: script.Tick, ID: 1}, false},
		{script.Event{Kind: script.Tick, ID: -1}, false},
		{script.Event{Kind: script.Tick, N: 1}, false},
		{script.Event{Kind: script.Tick, N: -1}, false},
		{script.Event{Kind: script.Tick, Data: "x"}, false},

		{script.Event{Kind: script.Cut, ID: -1}, false},
		{script.Event{Kind: script.Cut, ID: 0}, true},
		{script.Event{Kind: script.Cut, ID: 255}, true},
		{script.Event{Kind: script.Cut, ID: 256}, false},
		{script.Event{Kind: script.Cut, ID: 1, N: 1}, false},
		{script.Event{Kind: script.Cut, ID: 1, N: -1}, false},
		{script.Event{Kind: script.Cut, ID: 1, Data: "x"}, false},

		{script.Event{Kind: script.End, N: -1}, false},
		{script.Event{Kind: script.End, N: 0}, true},
		{script.Event{Kind: script.End, N: most}, true},
		{script.Event{Kind: script.End, N: above}, false},
		{script.Event{Kind: script.End, N: 1, ID: 1}, false},
		{script.Event{Kind: script.End, N: 1, ID: -1}, false},
		{script.Event{Kind: script.End, N: 1, Data: "x"}, false},
	} {
		is(t, c.e, c.want)
	}
}

// P16.1: each number as the Kind; of what is no Kind also with parts that others have.
func TestEachKind(t *testing.T) {
	for n := -600; n <= 600; n++ {
		is(t, script.Event{Kind: script.Kind(n)}, n >= 0 && n <= 7)
	}
	for _, n := range append(far(), -1, 8, 255, 256) {
		is(t, script.Event{Kind: script.Kind(n)}, false)
		is(t, script.Event{Kind: script.Kind(n), ID: 1}, false)
		is(t, script.Event{Kind: script.Kind(n), N: 1}, false)
		is(t, script.Event{Kind: script.Kind(n), Data: "x"}, false)
		is(t, script.Event{Kind: script.Kind(n), ID: 1, N: 1, Data: "x"}, false)
	}
}

// may tells whether the document lets an event have such parts.
func (k kind) may(id, n, size int) bool {
	return (id == 0 || k.hasID && id > 0 && id < 256) &&
		(n == 0 || k.hasN && n > 0 && n < 65537) &&
		(size == 0 || k.hasData && size < 4001)
}

// P16.1: each Kind with all its parts at once, each at its bounds, beside them, and far away.
func TestParts(t *testing.T) {
	ids := append(far(), -1, 0, 1, 254, 255, 256)
	ns := append(far(), -1, 0, 1, 255, 256, 65535, 65536, 65537)
	for _, k := range kinds() {
		for _, size := range []int{0, 1, 3999, 4000, 4001, 65536} {
			data := text(size)
			for _, id := range ids {
				for _, n := range ns {
					is(t, script.Event{Kind: k.kind, ID: id, N: n, Data: data}, k.may(id, n, size))
				}
			}
		}
	}
}

// P16.1: Data may be whatever bytes.
func TestAnyByte(t *testing.T) {
	for b := range 256 {
		is(t, script.Event{Kind: script.Output, Data: string([]byte{byte(b)})}, true)
		is(t, script.Event{Kind: script.Bytes, Data: string([]byte{byte(b)})}, true)
		is(t, script.Event{Kind: script.Tick, Data: string([]byte{byte(b)})}, false)
	}
}

// Default's bytes.
const usual = "\x00\x10\x00" + "\x00\x02\x00" + "\x00\x08\x00" + "\x00\x01\x00" + "\x00\x00\x03" + "\x00\x00\x64" + "\x00\x00\x00" + "\x00\x00\x50"

// encodes holds Encode against what it must tell, twice, whatever is written into its first answer.
func encodes(t *testing.T, why string, c conf.Conf, list []script.Event, want string, wantErr api.Errno) {
	t.Helper()
	was := append([]script.Event{}, list...)
	for range 2 {
		b, err := script.Encode(c, list)
		if string(b) != want || err != wantErr {
			t.Fatalf("%s: %d bytes, %s; not %d, %s: %.200q, not %.200q", why, len(b), err.Word(), len(want), wantErr.Word(), b, want)
		}
		for i := range b {
			b[i]++
		}
	}
	for i, e := range was {
		if list[i] != e {
			t.Fatalf("%s: the event %d is turned", why, i)
		}
	}
}

// P16.2: the bytes of each of the conf's numbers, which take one, two and three bytes; written out.
func TestConfBytes(t *testing.T) {
	least := conf.Conf{Log: 1, Data: 1, Queue: 220, Input: 1, Strikes: 0, Lease: 1, Idle: 0, Width: 1}
	most := conf.Conf{Log: 65536, Data: 2042, Queue: 65536, Input: 65536, Strikes: 9, Lease: 1000, Idle: 1000, Width: 500}
	mixed := conf.Conf{Log: 0x1234, Data: 0x0567, Queue: 0x89ab, Input: 0xcdef, Strikes: 5, Lease: 0x0234, Idle: 0x0167, Width: 0x0189}
	for _, one := range []struct {
		c    conf.Conf
		want string
	}{
		{conf.Default(), usual},
		{least, "\x00\x00\x01" + "\x00\x00\x01" + "\x00\x00\xdc" + "\x00\x00\x01" + "\x00\x00\x00" + "\x00\x00\x01" + "\x00\x00\x00" + "\x00\x00\x01"},
		{most, "\x01\x00\x00" + "\x00\x07\xfa" + "\x01\x00\x00" + "\x01\x00\x00" + "\x00\x00\x09" + "\x00\x03\xe8" + "\x00\x03\xe8" + "\x00\x01\xf4"},
		{mixed, "\x00\x12\x34" + "\x00\x05\x67" + "\x00\x89\xab" + "\x00\xcd\xef" + "\x00\x00\x05" + "\x00\x02\x34" + "\x00\x01\x67" + "\x00\x01\x89"},
	} {
		encodes(t, "a conf alone", one.c, nil, one.want, api.OK)
		encodes(t, "a conf alone", one.c, []script.Event{}, one.want, api.OK)
	}
}

// cases are events, one by one, and their bytes; written out.
func cases() []struct {
	e script.Event
	b string
} {
	return []struct {
		e script.Event
		b string
	}{
		{script.Event{Kind: script.Connect, ID: 0}, "\x00" + "\x00" + "\x00\x00\x00" + "\x00\x00"},
		{script.Event{Kind: script.Connect, ID: 16}, "\x00" + "\x10" + "\x00\x00\x00" + "\x00\x00"},
		{script.Event{Kind: script.Connect, ID: 255}, "\x00" + "\xff" + "\x00\x00\x00" + "\x00\x00"},
		{script.Event{Kind: script.Bytes, ID: 2}, "\x01" + "\x02" + "\x00\x00\x00" + "\x00\x00"},
		{script.Event{Kind: script.Bytes, ID: 2, Data: "\x00\xffa"}, "\x01" + "\x02" + "\x00\x00\x00" + "\x00\x03" + "\x00\xffa"},
		{script.Event{Kind: script.Bytes, ID: 200, Data: text(255)}, "\x01" + "\xc8" + "\x00\x00\x00" + "\x00\xff" + text(255)},
		{script.Event{Kind: script.Bytes, ID: 200, Data: text(256)}, "\x01" + "\xc8" + "\x00\x00\x00" + "\x01\x00" + text(256)},
		{script.Event{Kind: script.Write, ID: 3, N: 0}, "\x02" + "\x03" + "\x00\x00\x00" + "\x00\x00"},
		{script.Event{Kind: script.Write, ID: 3, N: 0xfe}, "\x02" + "\x03" + "\x00\x00\xfe" + "\x00\x00"},
		{script.Event{Kind: script.Write, ID: 3, N: 0x1234}, "\x02" + "\x03" + "\x00\x12\x34" + "\x00\x00"},
		{script.Event{Kind: script.Write, ID: 3, N: 65536}, "\x02" + "\x03" + "\x01\x00\x00" + "\x00\x00"},
		{script.Event{Kind: script.Output}, "\x03" + "\x00" + "\x00\x00\x00" + "\x00\x00"},
		{script.Event{Kind: script.Output, Data: "hi"}, "\x03" + "\x00" + "\x00\x00\x00" + "\x00\x02" + "hi"},
		{script.Event{Kind: script.Output, Data: text(4000)}, "\x03" + "\x00" + "\x00\x00\x00" + "\x0f\xa0" + text(4000)},
		{script.Event{Kind: script.Drain, N: 7}, "\x04" + "\x00" + "\x00\x00\x07" + "\x00\x00"},
		{script.Event{Kind: script.Drain, N: 65535}, "\x04" + "\x00" + "\x00\xff\xff" + "\x00\x00"},
		{script.Event{Kind: script.Drain, N: 65536}, "\x04" + "\x00" + "\x01\x00\x00" + "\x00\x00"},
		{script.Event{Kind: script.Tick}, "\x05" + "\x00" + "\x00\x00\x00" + "\x00\x00"},
		{script.Event{Kind: script.Cut, ID: 9}, "\x06" + "\x09" + "\x00\x00\x00" + "\x00\x00"},
		{script.Event{Kind: script.End, N: 1}, "\x07" + "\x00" + "\x00\x00\x01" + "\x00\x00"},
		{script.Event{Kind: script.End, N: 256}, "\x07" + "\x00" + "\x00\x01\x00" + "\x00\x00"},
		{script.Event{Kind: script.End, N: 65536}, "\x07" + "\x00" + "\x01\x00\x00" + "\x00\x00"},
	}
}

// P16.2: the bytes of each event's parts, one event alone, and all behind each other.
func TestEventBytes(t *testing.T) {
	var list []script.Event
	all := usual
	for _, c := range cases() {
		encodes(t, brief(c.e), conf.Default(), []script.Event{c.e}, usual+c.b, api.OK)
		list, all = append(list, c.e), all+c.b
	}
	encodes(t, "all", conf.Default(), list, all, api.OK)
}

// P16.2: the document's example.
func TestTick(t *testing.T) {
	encodes(t, "a Tick", conf.Default(), []script.Event{{Kind: script.Tick}}, usual+"\x05\x00\x00\x00\x00\x00\x00", api.OK)
}

// ticks are so many events.
func ticks(n int) []script.Event {
	list := make([]script.Event, n)
	for i := range list {
		list[i].Kind = script.Tick
	}
	return list
}

// tickBytes are so many events' bytes.
func tickBytes(n int) string { return strings.Repeat("\x05\x00\x00\x00\x00\x00\x00", n) }

// P16.2: MaxSteps events, and one more.
func TestManyEvents(t *testing.T) {
	for _, n := range []int{8191, 8192} {
		encodes(t, fmt.Sprintf("%d events", n), conf.Default(), ticks(n), usual+tickBytes(n), api.OK)
	}
	for _, n := range []int{8193, 8194, 2 * 8192, 65536, 65537} {
		encodes(t, fmt.Sprintf("%d events", n), conf.Default(), ticks(n), "", api.ErrLong)
	}
}

// P16.2: nothing is said of how many bytes there may be: more than a script that is decoded may have.
func TestManyBytes(t *testing.T) {
	list, want := []script.Event(nil), usual
	for range 70 {
		list = append(list, script.Event{Kind: script.Output, Data: text(4000)})
		want += "\x03\x00\x00\x00\x00\x0f\xa0" + text(4000)
	}
	if len(want) <= api.MaxBytes {
		t.Fatal(len(want))
	}
	encodes(t, "many bytes", conf.Default(), list, want, api.OK)
}

// wrongConfs are confs that aren't Right, each by one part.
func wrongConfs() []conf.Conf {
	var list []conf.Conf
	for _, turn := range []func(c *conf.Conf){
		func(c *conf.Conf) { *c = conf.Conf{} },
		func(c *conf.Conf) { c.Log = 0 },
		func(c *conf.Conf) { c.Log = 65537 },
		func(c *conf.Conf) { c.Data = 0 },
		func(c *conf.Conf) { c.Data = 2043 },
		func(c *conf.Conf) { c.Queue = 219 },
		func(c *conf.Conf) { c.Queue = 65537 },
		func(c *conf.Conf) { c.Input = 0 },
		func(c *conf.Conf) { c.Input = 65537 },
		func(c *conf.Conf) { c.Strikes = 10 },
		func(c *conf.Conf) { c.Lease = 0 },
		func(c *conf.Conf) { c.Lease = 1001 },
		func(c *conf.Conf) { c.Idle = 1001 },
		func(c *conf.Conf) { c.Width = 0 },
		func(c *conf.Conf) { c.Width = 501 },
		func(c *conf.Conf) { c.Width = 1<<24 - 1 },
	} {
		c := conf.Default()
		turn(&c)
		list = append(list, c)
	}
	return list
}

// P16.2: a conf that isn't Right, also such as three bytes can't hold, or hold as one that is.
func TestWrongConf(t *testing.T) {
	list := wrongConfs()
	for _, turn := range []func(c *conf.Conf){
		func(c *conf.Conf) { c.Log = -1 },
		func(c *conf.Conf) { c.Strikes = -1 },
		func(c *conf.Conf) { c.Idle = -1 },
		func(c *conf.Conf) { c.Data += 1 << 24 },
		func(c *conf.Conf) { c.Width -= 1 << 24 },
	} {
		c := conf.Default()
		turn(&c)
		list = append(list, c)
	}
	for _, c := range list {
		why := fmt.Sprintf("%+v", c)
		encodes(t, why, c, nil, "", api.ErrArg)
		encodes(t, why, c, ticks(3), "", api.ErrArg)
	}
}

// wrongEvents are events that aren't Right.
func wrongEvents() []script.Event {
	return []script.Event{
		{Kind: -1},
		{Kind: 8},
		{Kind: 256},
		{Kind: script.Connect, ID: -1},
		{Kind: script.Connect, ID: 256},
		{Kind: script.Connect, ID: 1, N: 1},
		{Kind: script.Bytes, ID: 1, Data: text(4001)},
		{Kind: script.Bytes, ID: 1, Data: text(65536)},
		{Kind: script.Write, ID: 1, N: -1},
		{Kind: script.Write, ID: 1, N: 65537},
		{Kind: script.Write, ID: 1, N: 1 << 24},
		{Kind: script.Output, ID: 1},
		{Kind: script.Drain, Data: "x"},
		{Kind: script.Tick, N: 1},
		{Kind: script.Cut, ID: 512},
		{Kind: script.End, ID: 1},
	}
}

// P16.2: an event that isn't Right, alone, at the first place, in the middle and at the last.
func TestWrongEvent(t *testing.T) {
	for _, e := range wrongEvents() {
		encodes(t, brief(e), conf.Default(), []script.Event{e}, "", api.ErrArg)
		for _, n := range []int{5, 8192} {
			for _, i := range []int{0, n / 2, n - 1} {
				list := ticks(n)
				list[i] = e
				encodes(t, fmt.Sprintf("%s at %d of %d", brief(e), i, n), conf.Default(), list, "", api.ErrArg)
			}
		}
	}
}

// P16.2: too many events are told ahead of a conf, or an event, that isn't Right.
func TestWhichError(t *testing.T) {
	for _, i := range []int{0, 4000, 8191, 8192} {
		list := ticks(8193)
		encodes(t, "a wrong conf", conf.Conf{}, list, "", api.ErrLong)
		list[i].N = 1
		encodes(t, "a wrong event", conf.Default(), list, "", api.ErrLong)
		encodes(t, "a wrong conf and a wrong event", conf.Conf{}, list, "", api.ErrLong)
		encodes(t, "a wrong conf and a wrong event, as many as may be", conf.Conf{}, list[:8192], "", api.ErrArg)
	}
}
