package script_test

import (
	"encoding/binary"
	"fmt"
	"math/rand"
	"slices"
	"testing"

	"kibitzer/api"
	"kibitzer/conf"
	"kibitzer/script"
)

// chance is what there is, by chance that is always the same.
type chance struct{ *rand.Rand }

// below is a number that is mostly small, and at times the greatest one below n.
func (c chance) below(n int) int {
	switch c.Intn(4) {
	case 0:
		return c.Intn(n)
	case 1:
		return n - 1
	}
	return c.Intn(min(n, 4))
}

func (c chance) conf() conf.Conf {
	return conf.Conf{
		Log: 1 + c.below(65536), Data: 1 + c.below(2042), Queue: 220 + c.below(65317), Input: 1 + c.below(65536),
		Strikes: c.below(10), Lease: 1 + c.below(1000), Idle: c.below(1001), Width: 1 + c.below(500),
	}
}

// event is one that is Right.
func (c chance) event() script.Event {
	k := kinds()[c.Intn(8)]
	e := script.Event{Kind: k.kind}
	if k.hasID {
		e.ID = c.below(256)
	}
	if k.hasN {
		e.N = c.below(65537)
	}
	if k.hasData {
		b := make([]byte, c.below(4001)*c.Intn(2)+c.Intn(3)*c.Intn(2))
		c.Read(b[:min(len(b), 4000)])
		e.Data = string(b[:min(len(b), 4000)])
	}
	return e
}

func (c chance) events() []script.Event {
	list := make([]script.Event, c.Intn(8))
	for i := range list {
		list[i] = c.event()
	}
	return list
}

// P16.3: whatever was encoded comes back.
func TestBack(t *testing.T) {
	for seed := range int64(3000) {
		c := chance{rand.New(rand.NewSource(seed))}
		with, list := c.conf(), c.events()
		b, err := script.Encode(with, list)
		size := 24
		for _, e := range list {
			size += 7 + len(e.Data)
		}
		if err != api.OK || len(b) != size {
			t.Fatalf("seed %d: %d bytes, not %d, %s", seed, len(b), size, err.Word())
		}
		decodes(t, fmt.Sprintf("seed %d", seed), string(b), with, list, size, api.OK)
	}
}

// read is Decode in the document's words: where each event begins and ends is found first, and asked then what it is.
func read(b []byte) (c conf.Conf, list []script.Event, at int, err api.Errno) {
	if len(b) > 1<<18 {
		return c, nil, 0, api.ErrLong
	}
	if len(b) < 24 {
		return c, nil, 0, api.ErrShort
	}
	three := func(i int) int { return int(binary.BigEndian.Uint32(append([]byte{0}, b[i:i+3]...))) }
	read := conf.Conf{
		Log: three(0), Data: three(3), Queue: three(6), Input: three(9),
		Strikes: three(12), Lease: three(15), Idle: three(18), Width: three(21),
	}
	if !read.Right() {
		return c, nil, 0, api.ErrForm
	}
	begins := []int{24}
	for at := 24; at+7 <= len(b); {
		at += 7 + int(binary.BigEndian.Uint16(b[at+5:]))
		if at <= len(b) {
			begins = append(begins, at)
		}
	}
	for i, end := range begins[1:] {
		at := begins[i]
		id, n, data := int(b[at+1]), three(at+2), string(b[at+7:end])
		if b[at] > 7 || !kinds()[b[at]].may(id, n, len(data)) {
			return read, list, at, api.ErrForm
		}
		if i == 8192 {
			return read, list, at, api.ErrLong
		}
		list = append(list, script.Event{Kind: script.Kind(b[at]), ID: id, N: n, Data: data})
	}
	if at = begins[len(begins)-1]; at < len(b) {
		err = api.ErrShort
	}
	return read, list, at, err
}

// spoiled is bytes that are otherwise by chance.
func (c chance) spoiled(b []byte) []byte {
	for range c.Intn(3) {
		switch at := c.Intn(len(b) + 1); c.Intn(5) {
		case 0:
			b = b[:at]
		case 1:
			b = append(b, byte(c.below(256)))
		case 2:
			b = slices.Insert(b, at, byte(c.below(256)))
		case 3:
			if at < len(b) {
				b = slices.Delete(b, at, at+1)
			}
		case 4:
			if at < len(b) {
				b[at] = byte(c.below(256))
			}
		}
	}
	return b
}

// some are bytes that are a script, or nearly one.
func (c chance) some() []byte {
	list := c.events()
	if c.Intn(200) == 0 {
		list = append(ticks(8185+c.Intn(7)), list...)
	}
	b, _ := script.Encode(c.conf(), list[:min(len(list), 8192)])
	for _, e := range list[min(len(list), 8192):] {
		more, _ := script.Encode(conf.Default(), []script.Event{e})
		b = append(b, more[24:]...)
	}
	return c.spoiled(b)
}

// P16.3: whatever the bytes are; and whatever is decoded whole is encoded as just these bytes.
func TestWhatever(t *testing.T) {
	met := map[api.Errno]int{}
	for seed := range int64(30000) {
		c := chance{rand.New(rand.NewSource(seed))}
		b := c.some()
		with, list, at, err := read(b)
		met[err]++
		decodes(t, fmt.Sprintf("seed %d", seed), string(b), with, list, at, err)
		if with != (conf.Conf{}) {
			encodes(t, fmt.Sprintf("seed %d", seed), with, list, string(b[:at]), api.OK)
		}
	}
	for _, err := range []api.Errno{api.OK, api.ErrShort, api.ErrForm, api.ErrLong} {
		if met[err] < 20 {
			t.Errorf("%s is told %d times", err.Word(), met[err])
		}
	}
}
