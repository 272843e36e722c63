package conf_test

import (
	"math"
	"testing"

	"kibitzer/api"
	"kibitzer/conf"
)

// part is what the document says of one of a Conf's parts: its bounds, and what Default has there.
type part struct {
	name                 string
	of                   func(c *conf.Conf) *int
	least, most, usually int
}

// parts are the eight, in the document's order, with its numbers written out.
func parts() []part {
	return []part{
		{"Log", func(c *conf.Conf) *int { return &c.Log }, 1, 65536, 4096},
		{"Data", func(c *conf.Conf) *int { return &c.Data }, 1, 2042, 512},
		{"Queue", func(c *conf.Conf) *int { return &c.Queue }, 220, 65536, 2048},
		{"Input", func(c *conf.Conf) *int { return &c.Input }, 1, 65536, 256},
		{"Strikes", func(c *conf.Conf) *int { return &c.Strikes }, 0, 9, 3},
		{"Lease", func(c *conf.Conf) *int { return &c.Lease }, 1, 1000, 100},
		{"Idle", func(c *conf.Conf) *int { return &c.Idle }, 0, 1000, 0},
		{"Width", func(c *conf.Conf) *int { return &c.Width }, 1, 500, 80},
	}
}

// usual is Default as the document has it.
func usual() conf.Conf {
	return conf.Conf{Log: 4096, Data: 512, Queue: 2048, Input: 256, Strikes: 3, Lease: 100, Idle: 0, Width: 80}
}

// with is a Conf with another number as one of its parts.
func (p part) with(c conf.Conf, n int) conf.Conf {
	*p.of(&c) = n
	return c
}

// may tells whether the document lets a part be that number.
func (p part) may(n int) bool { return n >= p.least && n <= p.most }

// edges are a part's bounds, and the numbers beside them, from one below the least to one above the greatest.
func (p part) edges() []int {
	return []int{p.least - 1, p.least, p.least + 1, p.most - 1, p.most, p.most + 1}
}

// far are numbers far away from all bounds; some of them would be within, if but their lowest bits counted, or no sign.
func far() []int {
	list := []int{math.MinInt, math.MinInt + 1, math.MaxInt - 1, math.MaxInt}
	for _, n := range []int{1, 5, 80, 220, 300, 500} {
		list = append(list, -n, math.MinInt+n)
		for _, turn := range []int{1 << 17, 1 << 31, 1 << 32, 1 << 48, 1 << 62} {
			list = append(list, turn+n, -turn+n, -turn-n)
		}
	}
	return list
}

// is holds Right against what it must tell, and sees to it that it turns nothing.
func is(t *testing.T, why string, c conf.Conf, want bool) {
	t.Helper()
	was := c
	if c.Right() != want || c != was {
		t.Errorf("%s: Right of %+v isn't %v", why, was, want)
	}
}

// P13.1: the document's example: the zero Conf.
func TestZero(t *testing.T) {
	is(t, "the zero Conf", conf.Conf{}, false)
}

// P13.1: the limits that the bounds are said by.
func TestLimits(t *testing.T) {
	if api.MaxCap != 65536 || api.MaxBody != 2048 || api.MaxTicks != 1000 || api.MaxWidth != 500 {
		t.Error("the limits aren't the document's")
	}
}

// P13.1: Reserve, a constant without a type of its own.
func TestReserve(t *testing.T) {
	const small uint8 = conf.Reserve
	const great int64 = conf.Reserve
	if small != 200 || great != 200 {
		t.Error(conf.Reserve)
	}
}

// P13.1: Default, part by part, and as a whole; it is Right.
func TestDefault(t *testing.T) {
	c := conf.Default()
	for _, p := range parts() {
		if got := *p.of(&c); got != p.usually {
			t.Errorf("%s is %d, not %d", p.name, got, p.usually)
		}
	}
	if c != usual() {
		t.Errorf("%+v", c)
	}
	is(t, "Default", conf.Default(), true)
	is(t, "what Default is", usual(), true)
}

// P13.1: the parts stand in the document's order.
func TestOrder(t *testing.T) {
	if (conf.Conf{4096, 512, 2048, 256, 3, 100, 0, 80}) != conf.Default() {
		t.Error("the parts are in another order")
	}
}

// Rule 4: what is done to one Default isn't seen in the next.
func TestDefaultAgain(t *testing.T) {
	for _, p := range parts() {
		c := conf.Default()
		*p.of(&c) = -1
		if conf.Default() != usual() {
			t.Errorf("%s: Default turned to %+v", p.name, conf.Default())
		}
	}
}

// P13.1: each part at its bounds and beside them, the others as in Default; written out.
func TestBounds(t *testing.T) {
	for _, c := range []struct {
		why  string
		turn func(c *conf.Conf)
		want bool
	}{
		{"Log below its least", func(c *conf.Conf) { c.Log = 0 }, false},
		{"Log at its least", func(c *conf.Conf) { c.Log = 1 }, true},
		{"Log at its greatest", func(c *conf.Conf) { c.Log = 65536 }, true},
		{"Log above its greatest", func(c *conf.Conf) { c.Log = 65537 }, false},
		{"Data below its least", func(c *conf.Conf) { c.Data = 0 }, false},
		{"Data at its least", func(c *conf.Conf) { c.Data = 1 }, true},
		{"Data at its greatest", func(c *conf.Conf) { c.Data = 2042 }, true},
		{"Data above its greatest", func(c *conf.Conf) { c.Data = 2043 }, false},
		{"Queue below its least", func(c *conf.Conf) { c.Queue = 219 }, false},
		{"Queue at its least", func(c *conf.Conf) { c.Queue = 220 }, true},
		{"Queue at its greatest", func(c *conf.Conf) { c.Queue = 65536 }, true},
		{"Queue above its greatest", func(c *conf.Conf) { c.Queue = 65537 }, false},
		{"Input below its least", func(c *conf.Conf) { c.Input = 0 }, false},
		{"Input at its least", func(c *conf.Conf) { c.Input = 1 }, true},
		{"Input at its greatest", func(c *conf.Conf) { c.Input = 65536 }, true},
		{"Input above its greatest", func(c *conf.Conf) { c.Input = 65537 }, false},
		{"Strikes below its least", func(c *conf.Conf) { c.Strikes = -1 }, false},
		{"Strikes at its least", func(c *conf.Conf) { c.Strikes = 0 }, true},
		{"Strikes at its greatest", func(c *conf.Conf) { c.Strikes = 9 }, true},
		{"Strikes above its greatest", func(c *conf.Conf) { c.Strikes = 10 }, false},
		{"Lease below its least", func(c *conf.Conf) { c.Lease = 0 }, false},
		{"Lease at its least", func(c *conf.Conf) { c.Lease = 1 }, true},
		{"Lease at its greatest", func(c *conf.Conf) { c.Lease = 1000 }, true},
		{"Lease above its greatest", func(c *conf.Conf) { c.Lease = 1001 }, false},
		{"Idle below its least", func(c *conf.Conf) { c.Idle = -1 }, false},
		{"Idle at its least", func(c *conf.Conf) { c.Idle = 0 }, true},
		{"Idle at its greatest", func(c *conf.Conf) { c.Idle = 1000 }, true},
		{"Idle above its greatest", func(c *conf.Conf) { c.Idle = 1001 }, false},
		{"Width below its least", func(c *conf.Conf) { c.Width = 0 }, false},
		{"Width at its least", func(c *conf.Conf) { c.Width = 1 }, true},
		{"Width at its greatest", func(c *conf.Conf) { c.Width = 500 }, true},
		{"Width above its greatest", func(c *conf.Conf) { c.Width = 501 }, false},
	} {
		one := usual()
		c.turn(&one)
		is(t, c.why, one, c.want)
	}
}

// P13.1: each part at each number from below 0 to above its greatest, the others as in Default.
func TestEachNumber(t *testing.T) {
	for _, p := range parts() {
		for n := -300; n <= p.most+300; n++ {
			is(t, p.name, p.with(usual(), n), p.may(n))
		}
	}
}

// P13.1: each part far away from its bounds: below 0, the least and the greatest number that there is, and such as would be within if they were cut.
func TestFar(t *testing.T) {
	for _, p := range parts() {
		for _, n := range far() {
			is(t, p.name, p.with(usual(), n), false)
		}
	}
}

// P13.1: all parts at their least, or at their greatest; then one of them beside that.
func TestAllAtBounds(t *testing.T) {
	least := conf.Conf{Log: 1, Data: 1, Queue: 220, Input: 1, Strikes: 0, Lease: 1, Idle: 0, Width: 1}
	most := conf.Conf{Log: 65536, Data: 2042, Queue: 65536, Input: 65536, Strikes: 9, Lease: 1000, Idle: 1000, Width: 500}
	is(t, "the least", least, true)
	is(t, "the greatest", most, true)
	for _, p := range parts() {
		for _, n := range p.edges() {
			is(t, "the least, but "+p.name, p.with(least, n), p.may(n))
			is(t, "the greatest, but "+p.name, p.with(most, n), p.may(n))
		}
	}
}

// P13.1: no part's bounds hang on another part: two of them at once, each at its bounds and beside them.
func TestTwo(t *testing.T) {
	for i, p := range parts() {
		for _, q := range parts()[i+1:] {
			for _, n := range p.edges() {
				for _, m := range q.edges() {
					is(t, p.name+" and "+q.name, q.with(p.with(usual(), n), m), p.may(n) && q.may(m))
				}
			}
		}
	}
}

// P13.1: all parts the same number.
func TestSame(t *testing.T) {
	for _, n := range append(far(), -1, 0, 1, 9, 10, 200, 219, 220, 500, 1000, 2042, 65536, 65537) {
		is(t, "all the same", conf.Conf{n, n, n, n, n, n, n, n}, false)
	}
}
