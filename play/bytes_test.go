package play_test

import (
	"fmt"
	"math/rand"
	"slices"
	"testing"

	"kibitzer/api"
	"kibitzer/broker"
	"kibitzer/conf"
	"kibitzer/play"
	"kibitzer/script"
)

// byHand is layer 14's call of an event's Kind, and what it tells.
func byHand(b *broker.Broker, e script.Event) play.Out {
	if !e.Right() {
		return play.Out{Err: api.ErrArg}
	}
	var out play.Out
	var data []byte
	switch e.Kind {
	case script.Connect:
		out.Err = b.Connect(e.ID)
	case script.Bytes:
		out.Err = b.Bytes(e.ID, []byte(e.Data))
	case script.Write:
		data, out.Err = b.Write(e.ID, e.N)
	case script.Output:
		out.Err = b.Output([]byte(e.Data))
	case script.Drain:
		data = b.Drain(e.N)
	case script.Tick:
		b.Tick()
	case script.Cut:
		out.Err = b.Cut(e.ID)
	case script.End:
		out.Err = b.End(int64(e.N))
	}
	out.Data = string(data)
	return out
}

// plays holds Bytes against what must come of events and where it must stop.
func plays(t *testing.T, why string, data []byte, c conf.Conf, list []script.Event, at int, err api.Errno) {
	t.Helper()
	in := slices.Clone(data)
	b, outs, gotAt, gotErr := play.Bytes(in)
	if !slices.Equal(in, data) {
		t.Fatalf("%s: the bytes are turned", why)
	}
	// They aren't kept, either.
	clear(in)
	if b == nil || gotAt != at || gotErr != err || len(outs) != len(list) {
		t.Fatalf("%s: %d outs, at %d, %s; not %d, at %d, %s", why, len(outs), gotAt, gotErr.Word(), len(list), at, err.Word())
	}
	want := newBroker(t, c)
	for i, e := range list {
		if out := byHand(want, e); outs[i] != out {
			t.Fatalf("%s: of the event %d: %+v, not %+v", why, i, outs[i], out)
		}
	}
	same(t, why, b, want)
}

// noBroker holds Bytes against an error that leaves no conf.
func noBroker(t *testing.T, why string, data []byte, want api.Errno) {
	t.Helper()
	if b, outs, at, err := play.Bytes(data); b != nil || len(outs) != 0 || at != 0 || err != want {
		t.Errorf("%s: %v, %d outs, at %d, %s; not %s", why, b != nil, len(outs), at, err.Word(), want.Word())
	}
}

// encoded is a script's bytes.
func encoded(t *testing.T, c conf.Conf, list []script.Event) []byte {
	t.Helper()
	b, err := script.Encode(c, list)
	if err != api.OK {
		t.Fatal(err.Word())
	}
	return b
}

// P17.1: bytes of which there is no conf.
func TestNoConf(t *testing.T) {
	list, _ := events()
	whole := encoded(t, quick, list)
	noBroker(t, "nil", nil, api.ErrShort)
	for n := range 24 {
		noBroker(t, fmt.Sprintf("%d bytes", n), whole[:n], api.ErrShort)
	}
	noBroker(t, "too many bytes", append(slices.Clone(whole), make([]byte, 1<<18)...), api.ErrLong)
	for i := 0; i < 24; i += 3 {
		b := slices.Clone(whole)
		b[i] = 2
		noBroker(t, fmt.Sprintf("a conf that isn't Right at %d", i), b, api.ErrForm)
		noBroker(t, fmt.Sprintf("a conf alone that isn't Right at %d", i), b[:24], api.ErrForm)
	}
}

// P17.1: a whole script: its outs, all of its bytes, and OK.
func TestWhole(t *testing.T) {
	list, outs := events()
	b := encoded(t, quick, list)
	plays(t, "the course", b, quick, list, len(b), api.OK)
	if _, got, _, _ := play.Bytes(b); !slices.Equal(got, outs) {
		t.Errorf("%+v", got)
	}
	plays(t, "a conf alone", b[:24], quick, nil, 24, api.OK)
	other := encoded(t, conf.Default(), list)
	plays(t, "another conf", other, conf.Default(), list, len(other), api.OK)
}

// P17.1: a script that is cut off at each of its bytes: what is whole is done, and told is where the rest begins.
func TestCutOff(t *testing.T) {
	list, _ := events()
	b := encoded(t, quick, list)
	for i, begins := 0, 24; i < len(list); i++ {
		end := begins + 7 + len(list[i].Data)
		plays(t, "up to an event", b[:begins], quick, list[:i], begins, api.OK)
		for n := begins + 1; n < end; n++ {
			plays(t, fmt.Sprintf("cut off at %d", n), b[:n], quick, list[:i], begins, api.ErrShort)
		}
		begins = end
	}
}

// P17.1: an event that isn't Right at each place of a script: what stands ahead of it is done, and nothing behind it.
func TestNoEvent(t *testing.T) {
	list, _ := events()
	for _, event := range []string{
		"\x08\x00\x00\x00\x00\x00\x00",
		"\x00\x03\x00\x00\x01\x00\x00",
		"\x05\x00\x00\x00\x00\x00\x01x",
		"\x04\x00\x01\x00\x01\x00\x00",
	} {
		for i := range len(list) + 1 {
			ahead := encoded(t, quick, list[:i])
			b := append(slices.Clone(ahead), event...)
			plays(t, "at the end", b, quick, list[:i], len(ahead), api.ErrForm)
			b = append(b, encoded(t, quick, list[i:])[24:]...)
			plays(t, "amid others", b, quick, list[:i], len(ahead), api.ErrForm)
		}
	}
}

// P17.1: one event more than MaxSteps.
func TestSteps(t *testing.T) {
	list := make([]script.Event, 8192)
	for i := range list {
		list[i] = script.Event{Kind: script.Output, Data: "x"}
	}
	b := encoded(t, quick, list)
	plays(t, "MaxSteps", b, quick, list, len(b), api.OK)
	plays(t, "one more", append(slices.Clone(b), b[24:32]...), quick, list, len(b), api.ErrLong)
	plays(t, "one more, cut off", append(slices.Clone(b), b[24:31]...), quick, list, len(b), api.ErrShort)
	plays(t, "one more, none", append(slices.Clone(b), "\x08\x00\x00\x00\x00\x00\x00"...), quick, list, len(b), api.ErrForm)
}

// chance is what there is, by chance that is always the same.
type chance struct{ *rand.Rand }

// of is one of the texts.
func (c chance) of(list ...string) string { return list[c.Intn(len(list))] }

// typed is what a user may type.
func (c chance) typed() string {
	line := c.of("floor", "floor", "drop", "list", "detach", "revoke", "replay 9", "limit 2", "give 2", "kick 1", "write 2", "watch 1", "none")
	return c.of("", "ab", "c\x1d\x1d") + "\x1d:" + line + c.of("\n", "\n", "\n", "")
}

// event is one that mostly does something.
func (c chance) event() script.Event {
	id := 1 + c.Intn(3)
	switch c.Intn(16) {
	case 0, 1:
		return script.Event{Kind: script.Connect, ID: id}
	case 2, 3, 4:
		return script.Event{Kind: script.Bytes, ID: id, Data: hello(int64(4+c.Intn(4)), "u")}
	case 5, 6, 7:
		return script.Event{Kind: script.Bytes, ID: id, Data: keys(c.typed())}
	case 8:
		return script.Event{Kind: script.Bytes, ID: id, Data: c.of("", "\xff", "\x00\x01", hello(5, "cut")[:9])}
	case 9, 10:
		return script.Event{Kind: script.Write, ID: id, N: c.Intn(300)}
	case 11, 12:
		return script.Event{Kind: script.Output, Data: c.of("", "a\n", "bcd", string(make([]byte, 120)))}
	case 13:
		return script.Event{Kind: script.Drain, N: c.Intn(9)}
	case 14:
		return script.Event{Kind: script.Tick}
	}
	switch c.Intn(6) {
	case 0:
		return script.Event{Kind: script.End, N: 100 * c.Intn(4)}
	case 1:
		return script.Event{Kind: script.Cut, ID: id}
	case 2:
		return script.Event{Kind: script.Connect, ID: c.Intn(256)}
	}
	return script.Event{Kind: script.Tick}
}

// events are so many, one by one by chance.
func (c chance) events(n int) []script.Event {
	list := make([]script.Event, n)
	for i := range list {
		list[i] = c.event()
	}
	return list
}

// P1: an event that is refused leaves all as it was: without those that were a broker ends the same.
func TestRefused(t *testing.T) {
	refused := map[api.Errno]int{}
	for seed := range int64(1000) {
		c := chance{rand.New(rand.NewSource(seed))}
		var list, kept []script.Event
		b := newBroker(t, quick)
		for _, e := range c.events(60) {
			if c.Intn(20) == 0 {
				e = wrong()[c.Intn(len(wrong()))]
			}
			err := play.Do(b, e).Err
			if err == api.OK {
				kept = append(kept, e)
			}
			list = append(list, e)
			refused[err]++
		}
		got, _ := play.Events(quick, list)
		want, outs := play.Events(quick, kept)
		if slices.ContainsFunc(outs, func(out play.Out) bool { return out.Err != api.OK }) {
			t.Fatalf("seed %d: another one is refused without these", seed)
		}
		same(t, fmt.Sprintf("seed %d", seed), got, want)
	}
	for _, err := range []api.Errno{api.ErrArg, api.ErrNone, api.ErrState} {
		if refused[err] < 20 {
			t.Errorf("%d are refused as %s", refused[err], err.Word())
		}
	}
}

// P17.1, P1: whatever bytes a script has: what comes of each event, up to the first bytes that are none, is what its calls tell.
func TestWhatever(t *testing.T) {
	errs, stops, bytes := map[api.Errno]int{}, map[api.Errno]int{}, 0
	for seed := range int64(1500) {
		c := chance{rand.New(rand.NewSource(seed))}
		list := c.events(c.Intn(100))
		b := encoded(t, quick, list)
		for range min(c.Intn(3), len(list)) {
			b[24+c.Intn(len(b)-24)] = byte(c.Intn(256) * c.Intn(2))
		}
		with, list, at, err := script.Decode(b)
		stops[err]++
		plays(t, fmt.Sprintf("seed %d", seed), b, with, list, at, err)
		_, outs, _, _ := play.Bytes(b)
		for _, out := range outs {
			errs[out.Err]++
			bytes += len(out.Data)
		}
	}
	for _, err := range []api.Errno{api.OK, api.ErrArg, api.ErrNone, api.ErrState} {
		if errs[err] < 20 {
			t.Errorf("%s comes of an event %d times", err.Word(), errs[err])
		}
	}
	for _, err := range []api.Errno{api.OK, api.ErrShort, api.ErrForm} {
		if stops[err] < 20 {
			t.Errorf("%s stops a script %d times", err.Word(), stops[err])
		}
	}
	if bytes < 10000 {
		t.Errorf("%d bytes are told", bytes)
	}
}
