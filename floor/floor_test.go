package floor_test

import (
	"fmt"
	"math"
	"slices"
	"strconv"
	"strings"
	"testing"

	"kibitzer/api"
	"kibitzer/floor"
)

// The roles as numbers, so that the constants are tested too.
const observer, writer, owner = floor.Role(0), floor.Role(1), floor.Role(2)

// table is what can be done to a table of the floor, and to its model.
type table interface {
	Join(id int, r floor.Role) bool
	Leave(id int) bool
	Role(id int) (floor.Role, bool)
	SetRole(id int, r floor.Role) bool
	Ask(id int) api.Errno
	Drop(id int) api.Errno
	Give(id int) api.Errno
	Revoke() api.Errno
	Tick()
	Holder() int
	Left() int
	Queue() []int
	Users() []int
}

// user is one who is there.
type user struct {
	id   int
	role floor.Role
}

// model keeps who is there in a list, and those who want the floor in one line: the first one of it holds the floor, the others wait.
type model struct {
	lease, left int
	there       []user
	line        []int
}

func newModel(lease int) *model {
	if lease < 1 {
		lease = 1
	}
	if lease > 1000 {
		lease = 1000
	}
	return &model{lease: lease}
}

// at is where somebody stands in the list of who is there; -1: nowhere.
func (m *model) at(id int) int {
	return slices.IndexFunc(m.there, func(u user) bool { return u.id == id })
}

// without is the line without somebody; whoever is the first one by that has a new lease.
func (m *model) without(id int) {
	place := slices.Index(m.line, id)
	if place < 0 {
		return
	}
	m.line = slices.Concat(m.line[:place], m.line[place+1:])
	if place == 0 {
		m.anew()
	}
}

// anew begins the lease of the first one in the line.
func (m *model) anew() {
	m.left = 0
	if len(m.line) > 0 {
		m.left = m.lease
	}
}

func (m *model) Join(id int, r floor.Role) bool {
	if m.at(id) >= 0 || id <= 0 || r != observer && r != writer && r != owner {
		return false
	}
	m.there = append(m.there, user{id, r})
	return true
}

func (m *model) Leave(id int) bool {
	i := m.at(id)
	if i < 0 {
		return false
	}
	m.without(id)
	m.there = slices.Concat(m.there[:i], m.there[i+1:])
	return true
}

func (m *model) Role(id int) (floor.Role, bool) {
	if i := m.at(id); i >= 0 {
		return m.there[i].role, true
	}
	return 0, false
}

func (m *model) SetRole(id int, r floor.Role) bool {
	i := m.at(id)
	if i < 0 || r != observer && r != writer && r != owner {
		return false
	}
	m.there[i].role = r
	if r == observer {
		m.without(id)
	}
	return true
}

// no is why somebody may not write.
func (m *model) no(id int) api.Errno {
	if m.at(id) < 0 {
		return api.ErrNone
	}
	if m.there[m.at(id)].role == observer {
		return api.ErrRole
	}
	return api.OK
}

func (m *model) Ask(id int) api.Errno {
	if e := m.no(id); e != api.OK {
		return e
	}
	if slices.Contains(m.line, id) {
		return api.ErrState
	}
	m.line = append(m.line, id)
	if len(m.line) == 1 {
		m.anew()
	}
	return api.OK
}

func (m *model) Drop(id int) api.Errno {
	if m.at(id) < 0 {
		return api.ErrNone
	}
	if !slices.Contains(m.line, id) {
		return api.ErrState
	}
	m.without(id)
	return api.OK
}

func (m *model) Give(id int) api.Errno {
	if e := m.no(id); e != api.OK {
		return e
	}
	if m.Holder() == id {
		return api.ErrState
	}
	m.without(id)
	line := []int{id}
	if len(m.line) > 0 {
		line = append(line, m.line[1:]...)
	}
	m.line = line
	m.anew()
	return api.OK
}

func (m *model) Revoke() api.Errno {
	if len(m.line) == 0 {
		return api.ErrState
	}
	m.without(m.line[0])
	return api.OK
}

func (m *model) Tick() {
	if len(m.line) == 0 {
		return
	}
	m.left--
	if m.left > 0 {
		return
	}
	if len(m.line) > 1 {
		m.line = m.line[1:]
	}
	m.anew()
}

func (m *model) Holder() int {
	if len(m.line) == 0 {
		return 0
	}
	return m.line[0]
}

func (m *model) Left() int { return m.left }

func (m *model) Queue() []int {
	if len(m.line) == 0 {
		return nil
	}
	return slices.Clone(m.line[1:])
}

func (m *model) Users() []int {
	var list []int
	for _, u := range m.there {
		i := 0
		for i < len(list) && list[i] < u.id {
			i++
		}
		list = slices.Insert(list, i, u.id)
	}
	return list
}

// call is one call that may turn a table.
type call struct {
	name string
	id   int
	role floor.Role
}

func (c call) String() string {
	switch c.name {
	case "revoke", "tick":
		return c.name
	case "join", "set":
		return fmt.Sprint(c.name, " ", c.id, " ", int(c.role))
	}
	return fmt.Sprint(c.name, " ", c.id)
}

// read is the call that a line tells.
func read(line string) call {
	words := append(strings.Split(line, " "), "0", "0")
	id, errID := strconv.Atoi(words[1])
	role, errRole := strconv.Atoi(words[2])
	if errID != nil || errRole != nil {
		panic(line)
	}
	return call{words[0], id, floor.Role(role)}
}

// on does the call, and tells the answer.
func (c call) on(t table) string {
	switch c.name {
	case "join":
		return fmt.Sprint(t.Join(c.id, c.role))
	case "leave":
		return fmt.Sprint(t.Leave(c.id))
	case "set":
		return fmt.Sprint(t.SetRole(c.id, c.role))
	case "ask":
		return t.Ask(c.id).Word()
	case "drop":
		return t.Drop(c.id).Word()
	case "give":
		return t.Give(c.id).Word()
	case "revoke":
		return t.Revoke().Word()
	case "tick":
		t.Tick()
		return ""
	}
	panic(c.name)
}

// floorOf tells who holds the floor and who waits for it.
func floorOf(t table) string {
	return fmt.Sprint(t.Holder(), " ", t.Left(), " ", t.Queue())
}

// stateOf tells all that is asked of a table.
func stateOf(t table) string {
	s := floorOf(t)
	for _, id := range t.Users() {
		r, ok := t.Role(id)
		s += fmt.Sprintf(" %d:%d", id, r)
		if !ok {
			s += "!"
		}
	}
	return s
}

// sound holds a table against what is so at any time: who holds the floor, and who waits, is there and no Observer, and nobody stands there twice.
func sound(t *testing.T, why string, x table) {
	t.Helper()
	stand := x.Queue()
	if x.Holder() != 0 {
		stand = append(stand, x.Holder())
	} else if x.Left() != 0 || len(stand) != 0 {
		t.Fatalf("%s: nobody holds the floor: %s", why, floorOf(x))
	}
	slices.Sort(stand)
	for i, id := range stand {
		if r, ok := x.Role(id); !ok || r == observer {
			t.Fatalf("%s: %d is none who may write: %s", why, id, stateOf(x))
		}
		if i > 0 && stand[i-1] == id {
			t.Fatalf("%s: %d stands there twice: %s", why, id, stateOf(x))
		}
	}
}

// same does a call to a table and to a model, and holds both against each other.
func same(t *testing.T, why string, c call, x, m table) {
	t.Helper()
	if is, must := c.on(x), c.on(m); is != must {
		t.Fatalf("%s: %s answers %s, not %s", why, c, is, must)
	}
	if is, must := stateOf(x), stateOf(m); is != must {
		t.Fatalf("%s: behind %s: %s, not %s", why, c, is, must)
	}
	sound(t, why, x)
}

// seats is a table of a lease, with 1 an Owner, 2 to 5 Writers, and 6 an Observer.
func seats(lease int) *floor.Table {
	x := floor.New(lease)
	x.Join(1, floor.Owner)
	for id := 2; id <= 5; id++ {
		x.Join(id, floor.Writer)
	}
	x.Join(6, floor.Observer)
	return x
}

// P10.1: the roles are 0, 1 and 2.
func TestRoles(t *testing.T) {
	if floor.Observer != observer || floor.Writer != writer || floor.Owner != owner {
		t.Error(floor.Observer, floor.Writer, floor.Owner)
	}
}

// P10.1: nobody is there, holds the floor or waits; what is asked of a table, and what it refuses, turns nothing.
func TestNew(t *testing.T) {
	x := floor.New(3)
	for range 2 {
		if s := stateOf(x); s != "0 0 []" {
			t.Fatal(s)
		}
		for _, id := range []int{math.MinInt, -1, 0, 1, math.MaxInt} {
			if r, ok := x.Role(id); r != 0 || ok {
				t.Errorf("Role of %d: %d, %t", id, r, ok)
			}
			if x.Leave(id) || x.SetRole(id, floor.Writer) || x.SetRole(id, floor.Observer) {
				t.Errorf("%d is there", id)
			}
			if x.Ask(id) != api.ErrNone || x.Drop(id) != api.ErrNone || x.Give(id) != api.ErrNone {
				t.Errorf("%d is there", id)
			}
		}
		if x.Revoke() != api.ErrState {
			t.Error("Revoke")
		}
		x.Tick()
	}
}

// P10.1: the lease: below 1 counts as 1, above MaxTicks as that.
func TestLease(t *testing.T) {
	for _, c := range []struct{ lease, want int }{
		{math.MinInt, 1}, {math.MinInt32, 1}, {-1 << 32, 1}, {-1000, 1}, {-2, 1}, {-1, 1}, {0, 1}, {1, 1}, {2, 2}, {3, 3}, {10, 10}, {255, 255}, {256, 256}, {257, 257}, {500, 500},
		{998, 998}, {999, 999}, {1000, 1000}, {1001, 1000}, {1002, 1000}, {2000, 1000}, {65536, 1000}, {1 << 32, 1000}, {1<<32 + 1, 1000}, {math.MaxInt - 1, 1000}, {math.MaxInt, 1000},
	} {
		x := seats(c.lease)
		is := func(why string, holder, left int) {
			t.Helper()
			if x.Holder() != holder || x.Left() != left {
				t.Fatalf("lease %d, %s: %s", c.lease, why, floorOf(x))
			}
		}
		x.Ask(1)
		for range 3 { // nobody waits: another lease, and another
			for n := range c.want {
				is("alone", 1, c.want-n)
				x.Tick()
			}
		}
		is("alone, behind three leases", 1, c.want)
		x.Ask(2)
		for n := range c.want {
			is("while 2 waits", 1, c.want-n)
			x.Tick()
		}
		is("2's turn", 2, c.want)
		x.Give(3)
		is("3 is given it", 3, c.want)
		x.Ask(4)
		x.Revoke()
		is("4's turn", 4, c.want)
	}
}

// P10.1: a Tick while nobody holds the floor is nothing, and takes nothing of the lease that comes.
func TestTicksOfNobody(t *testing.T) {
	x := seats(3)
	for range 10 {
		x.Tick()
		if s := floorOf(x); s != "0 0 []" {
			t.Fatal(s)
		}
	}
	x.Ask(2)
	if s := floorOf(x); s != "2 3 []" {
		t.Error(s)
	}
	x.Drop(2)
	for range 4 {
		x.Tick()
	}
	x.Ask(3)
	if s := floorOf(x); s != "3 3 []" {
		t.Error(s)
	}
}

// P10.1, P10.2, P10.3: what each call answers and does, written out; with 1 an Owner, 2 to 5 Writers, 6 an Observer, and a lease of 3.
func TestKnown(t *testing.T) {
	for _, c := range []struct{ why, ahead, does, answer, floor string }{
		{"Ask while nobody holds it", "", "ask 2", "ok", "2 3 []"},
		{"Ask of an Owner", "", "ask 1", "ok", "1 3 []"},
		{"Ask while somebody holds it", "ask 2", "ask 3", "ok", "2 3 [3]"},
		{"Ask waits behind all others", "ask 2,ask 5,ask 4", "ask 3", "ok", "2 3 [5 4 3]"},
		{"an Owner waits like others", "ask 2,ask 5", "ask 1", "ok", "2 3 [5 1]"},
		{"Ask leaves the lease as it is", "ask 2,tick", "ask 3", "ok", "2 2 [3]"},
		{"Ask of who holds it", "ask 2,tick", "ask 2", "state", "2 2 []"},
		{"Ask of who holds it while others wait", "ask 2,ask 3", "ask 2", "state", "2 3 [3]"},
		{"Ask of who waits", "ask 2,ask 3,ask 4", "ask 3", "state", "2 3 [3 4]"},
		{"Ask of who isn't there", "ask 2", "ask 9", "none", "2 3 []"},
		{"Ask of 0 while nobody holds it", "", "ask 0", "none", "0 0 []"},
		{"Ask of a number below 0", "", "ask -1", "none", "0 0 []"},
		{"Ask of an Observer", "", "ask 6", "role", "0 0 []"},
		{"Ask of an Observer while others wait", "ask 2,ask 3", "ask 6", "role", "2 3 [3]"},
		{"Ask again behind Drop", "ask 2,ask 3,drop 2", "ask 2", "ok", "3 3 [2]"},
		{"Ask again behind the lease", "ask 2,ask 3,tick,tick,tick", "ask 2", "ok", "3 3 [2]"},
		{"Ask again of who waited and dropped it stands behind all others", "ask 2,ask 3,ask 4,drop 3", "ask 3", "ok", "2 3 [4 3]"},

		{"Drop of who holds it alone", "ask 2,tick", "drop 2", "ok", "0 0 []"},
		{"Drop of who holds it while others wait", "ask 2,ask 4,ask 3,tick", "drop 2", "ok", "4 3 [3]"},
		{"Drop of the first who waits", "ask 2,ask 3,ask 4,ask 5,tick", "drop 3", "ok", "2 2 [4 5]"},
		{"Drop of who waits in the midst", "ask 2,ask 3,ask 4,ask 5,tick", "drop 4", "ok", "2 2 [3 5]"},
		{"Drop of the last who waits", "ask 2,ask 3,ask 4,ask 5,tick", "drop 5", "ok", "2 2 [3 4]"},
		{"Drop of who does neither", "ask 2,ask 3,tick", "drop 4", "state", "2 2 [3]"},
		{"Drop while nobody holds it", "", "drop 2", "state", "0 0 []"},
		{"Drop of an Observer", "ask 2,ask 3", "drop 6", "state", "2 3 [3]"},
		{"Drop of who isn't there", "ask 2,ask 3", "drop 9", "none", "2 3 [3]"},
		{"Drop of 0 while nobody holds it", "", "drop 0", "none", "0 0 []"},
		{"Drop of 0 while somebody does", "ask 2", "drop 0", "none", "2 3 []"},
		{"Drop twice", "ask 2,drop 2", "drop 2", "state", "0 0 []"},

		{"Give while nobody holds it", "", "give 3", "ok", "3 3 []"},
		{"Give to an Owner", "ask 2", "give 1", "ok", "1 3 []"},
		{"Give to who does neither, while somebody holds it", "ask 2,tick", "give 3", "ok", "3 3 []"},
		{"Give to who does neither, while others wait", "ask 2,ask 3,ask 4,tick", "give 5", "ok", "5 3 [3 4]"},
		{"Give to who waits as the first", "ask 2,ask 3,ask 4,ask 5,tick", "give 3", "ok", "3 3 [4 5]"},
		{"Give to who waits in the midst", "ask 2,ask 3,ask 4,ask 5,tick", "give 4", "ok", "4 3 [3 5]"},
		{"Give to who waits as the last", "ask 2,ask 3,ask 4,ask 5,tick", "give 5", "ok", "5 3 [3 4]"},
		{"Give to who waits alone", "ask 2,ask 3,tick", "give 3", "ok", "3 3 []"},
		{"Give to who holds it", "ask 2,ask 3,tick", "give 2", "state", "2 2 [3]"},
		{"Give to who holds it alone", "ask 2,tick", "give 2", "state", "2 2 []"},
		{"Give back to who held it", "ask 2,ask 3,give 4,tick", "give 2", "ok", "2 3 [3]"},
		{"who held it may ask anew", "ask 2,ask 3,give 4", "ask 2", "ok", "4 3 [3 2]"},
		{"Give to who isn't there", "ask 2,tick", "give 9", "none", "2 2 []"},
		{"Give to 0", "ask 2", "give 0", "none", "2 3 []"},
		{"Give to 0 while nobody holds it", "", "give 0", "none", "0 0 []"},
		{"Give to an Observer", "ask 2,tick", "give 6", "role", "2 2 []"},
		{"Give to an Observer while nobody holds it", "", "give 6", "role", "0 0 []"},

		{"Revoke while nobody holds it", "", "revoke", "state", "0 0 []"},
		{"Revoke while nobody waits", "ask 2,tick", "revoke", "ok", "0 0 []"},
		{"Revoke while somebody waits", "ask 2,ask 3,tick", "revoke", "ok", "3 3 []"},
		{"Revoke while several wait", "ask 2,ask 5,ask 3,tick", "revoke", "ok", "5 3 [3]"},
		{"Revoke twice", "ask 2,ask 3,revoke", "revoke", "ok", "0 0 []"},
		{"Revoke once more than that", "ask 2,ask 3,revoke,revoke", "revoke", "state", "0 0 []"},
		{"Ask behind Revoke", "ask 2,revoke", "ask 3", "ok", "3 3 []"},

		{"Tick while nobody holds it", "", "tick", "", "0 0 []"},
		{"the lease's first tick", "ask 2", "tick", "", "2 2 []"},
		{"the tick ahead of the lease's last one", "ask 2,ask 3,tick", "tick", "", "2 1 [3]"},
		{"the lease's last tick while nobody waits", "ask 2,tick,tick", "tick", "", "2 3 []"},
		{"the lease's last tick while somebody waits", "ask 2,ask 3,tick,tick", "tick", "", "3 3 []"},
		{"the lease's last tick while several wait", "ask 2,ask 5,ask 3,tick,tick", "tick", "", "5 3 [3]"},
		{"who came to wait just ahead of the lease's last tick", "ask 2,tick,tick,ask 3", "tick", "", "3 3 []"},
		{"who came to wait behind it", "ask 2,tick,tick,tick,ask 3", "tick", "", "2 2 [3]"},
		{"who waits no more", "ask 2,ask 3,tick,tick,drop 3", "tick", "", "2 3 []"},

		{"Leave of who holds it alone", "ask 2,tick", "leave 2", "true", "0 0 []"},
		{"Leave of who holds it while others wait", "ask 2,ask 4,ask 3,tick", "leave 2", "true", "4 3 [3]"},
		{"Leave of the first who waits", "ask 2,ask 3,ask 4,ask 5,tick", "leave 3", "true", "2 2 [4 5]"},
		{"Leave of who waits in the midst", "ask 2,ask 3,ask 4,ask 5,tick", "leave 4", "true", "2 2 [3 5]"},
		{"Leave of the last who waits", "ask 2,ask 3,ask 4,ask 5,tick", "leave 5", "true", "2 2 [3 4]"},
		{"Leave of who does neither", "ask 2,ask 3,tick", "leave 5", "true", "2 2 [3]"},
		{"Leave of an Observer", "ask 2,ask 3,tick", "leave 6", "true", "2 2 [3]"},
		{"Leave of who isn't there", "ask 2,ask 3,tick", "leave 9", "false", "2 2 [3]"},
		{"Leave of 0", "ask 2", "leave 0", "false", "2 3 []"},
		{"Leave of 0 while nobody holds it", "", "leave 0", "false", "0 0 []"},
		{"Leave twice", "ask 2,ask 3,leave 3", "leave 3", "false", "2 3 []"},
		{"Ask of who left", "ask 2,leave 3", "ask 3", "none", "2 3 []"},
		{"Drop of who left", "ask 2,ask 3,leave 3", "drop 3", "none", "2 3 []"},
		{"Give to who left", "ask 2,ask 3,leave 3", "give 3", "none", "2 3 []"},
		{"who left and joined doesn't hold it", "ask 2,leave 2", "join 2 1", "true", "0 0 []"},
		{"who left and joined doesn't wait", "ask 2,ask 3,ask 4,leave 3", "join 3 1", "true", "2 3 [4]"},
		{"Join while somebody holds it", "ask 2,ask 3,tick", "join 7 2", "true", "2 2 [3]"},
		{"Join of who holds it", "ask 2,ask 3,tick", "join 2 0", "false", "2 2 [3]"},
		{"Join of who waits", "ask 2,ask 3,tick", "join 3 0", "false", "2 2 [3]"},

		{"SetRole to Observer of who holds it alone", "ask 2,tick", "set 2 0", "true", "0 0 []"},
		{"SetRole to Observer of who holds it while others wait", "ask 2,ask 4,ask 3,tick", "set 2 0", "true", "4 3 [3]"},
		{"SetRole to Observer of the first who waits", "ask 2,ask 3,ask 4,ask 5,tick", "set 3 0", "true", "2 2 [4 5]"},
		{"SetRole to Observer of who waits in the midst", "ask 2,ask 3,ask 4,ask 5,tick", "set 4 0", "true", "2 2 [3 5]"},
		{"SetRole to Observer of the last who waits", "ask 2,ask 3,ask 4,ask 5,tick", "set 5 0", "true", "2 2 [3 4]"},
		{"SetRole to Observer of who does neither", "ask 2,ask 3,tick", "set 4 0", "true", "2 2 [3]"},
		{"SetRole to Observer of an Observer", "ask 2,ask 3,tick", "set 6 0", "true", "2 2 [3]"},
		{"SetRole to Observer of an Owner who holds it", "ask 1,ask 3,tick", "set 1 0", "true", "3 3 []"},
		{"SetRole to Owner of who holds it", "ask 2,ask 3,tick", "set 2 2", "true", "2 2 [3]"},
		{"SetRole to Writer of who holds it", "ask 1,ask 3,tick", "set 1 1", "true", "1 2 [3]"},
		{"SetRole to the same role of who holds it", "ask 2,ask 3,tick", "set 2 1", "true", "2 2 [3]"},
		{"SetRole to Owner of who waits", "ask 2,ask 3,ask 4,tick", "set 3 2", "true", "2 2 [3 4]"},
		{"SetRole to Writer of who waits", "ask 2,ask 1,ask 4,tick", "set 1 1", "true", "2 2 [1 4]"},
		{"SetRole to none of who holds it", "ask 2,ask 3,tick", "set 2 3", "false", "2 2 [3]"},
		{"SetRole to none below 0 of who waits", "ask 2,ask 3,tick", "set 3 -1", "false", "2 2 [3]"},
		{"SetRole of who isn't there", "ask 2,ask 3,tick", "set 9 0", "false", "2 2 [3]"},
		{"SetRole of 0 while nobody holds it", "", "set 0 0", "false", "0 0 []"},
		{"Ask of who is an Observer now", "ask 2,set 3 0", "ask 3", "role", "2 3 []"},
		{"Give to who is an Observer now", "ask 2,ask 3,set 3 0", "give 3", "role", "2 3 []"},
		{"Ask of who is an Observer no more", "ask 2,set 6 1", "ask 6", "ok", "2 3 [6]"},
		{"Give to who is an Observer no more", "ask 2,set 6 2", "give 6", "ok", "6 3 []"},
		{"who became an Observer and a Writer again doesn't hold it", "ask 2,ask 3,set 2 0", "set 2 1", "true", "3 3 []"},
		{"who became an Observer and a Writer again doesn't wait", "ask 2,ask 3,set 3 0", "set 3 1", "true", "2 3 []"},
	} {
		x := seats(3)
		if c.ahead != "" {
			for line := range strings.SplitSeq(c.ahead, ",") {
				if a := read(line).on(x); a != "ok" && a != "true" && a != "" {
					t.Fatalf("%s: %s answers %s", c.why, line, a)
				}
			}
		}
		if a := read(c.does).on(x); a != c.answer {
			t.Errorf("%s: %s answers %s, not %s", c.why, c.does, a, c.answer)
		}
		if s := floorOf(x); s != c.floor {
			t.Errorf("%s: %s, not %s", c.why, s, c.floor)
		}
		sound(t, c.why, x)
	}
}

// P10.1, P10.3: the document's example.
func TestExample(t *testing.T) {
	x := floor.New(2)
	x.Join(1, floor.Owner)
	x.Join(2, floor.Writer)
	if x.Ask(1) != api.OK || x.Ask(2) != api.OK {
		t.Fatal("Ask")
	}
	x.Tick()
	x.Tick()
	if s := floorOf(x); s != "2 2 []" {
		t.Error(s)
	}
}

// P10.2: who may join: who isn't there, with a number of 1 or above, and a role.
func TestJoin(t *testing.T) {
	ids := []int{math.MinInt, math.MinInt32, -1 << 32, -2, -1, 0, 1, 2, 15, 16, 17, 255, 256, 65536, math.MaxInt32, 1 << 32, 1<<32 + 1, math.MaxInt - 1, math.MaxInt}
	roles := []floor.Role{math.MinInt, math.MinInt32, -1 << 32, -2, -1, 0, 1, 2, 3, 4, 255, 256, 257, 1 << 32, 1<<32 + 1, math.MaxInt}
	for _, id := range ids {
		for _, role := range roles {
			x := floor.New(3)
			want := id >= 1 && role >= 0 && role <= 2
			if x.Join(id, role) != want {
				t.Fatalf("Join of %d, %d isn't %t", id, role, want)
			}
			r, ok := x.Role(id)
			if ok != want || want && r != role || !want && r != 0 {
				t.Fatalf("Join of %d, %d: Role: %d, %t", id, role, r, ok)
			}
			if want && !slices.Equal(x.Users(), []int{id}) || !want && len(x.Users()) != 0 {
				t.Fatalf("Join of %d, %d: Users: %d", id, role, x.Users())
			}
			for _, again := range roles {
				if want && x.Join(id, again) {
					t.Fatalf("Join of %d, who is there, as %d", id, again)
				}
			}
			if r, ok := x.Role(id); ok != want || want && r != role {
				t.Fatalf("Join of %d, who is there: Role: %d, %t", id, r, ok)
			}
		}
	}
}

// P10.2: the role is what Join and SetRole told last; a number or a role that is none turns nothing.
func TestRole(t *testing.T) {
	for from := observer; from <= owner; from++ {
		for _, to := range []floor.Role{math.MinInt, -1, 0, 1, 2, 3, 256, math.MaxInt} {
			x := floor.New(3)
			x.Join(4, from)
			x.Join(5, floor.Writer)
			want, is := from, to >= 0 && to <= 2
			if is {
				want = to
			}
			if x.SetRole(4, to) != is || x.SetRole(3, to) {
				t.Errorf("SetRole from %d to %d", from, to)
			}
			if s := stateOf(x); s != fmt.Sprintf("0 0 [] 4:%d 5:1", want) {
				t.Errorf("SetRole from %d to %d: %s", from, to, s)
			}
			if r, ok := x.Role(3); r != 0 || ok {
				t.Errorf("SetRole of 3, who isn't there: %d, %t", r, ok)
			}
			if !x.Leave(4) || x.SetRole(4, to) || x.SetRole(4, floor.Observer) {
				t.Errorf("SetRole of 4, who left")
			}
			if r, ok := x.Role(4); r != 0 || ok {
				t.Errorf("Role of 4, who left: %d, %t", r, ok)
			}
			if !x.Join(4, floor.Writer) {
				t.Error("Join of 4, who left")
			}
			if r, ok := x.Role(4); r != floor.Writer || !ok {
				t.Errorf("Role of 4, who joined anew: %d, %t", r, ok)
			}
		}
	}
}

// P10.2: Users are told by rising numbers, however many, in whatever order they joined and left.
func TestUsers(t *testing.T) {
	for _, n := range []int{1, 2, 3, 7, 8, 9, 16, 17, 100, 1000} {
		for _, step := range []int{1, 7, 1999} {
			x := floor.New(3)
			var want []int
			for k := range n {
				id := k*step%n*3 + 1
				x.Join(id, floor.Role(id%3))
				if !slices.Contains(want, id) {
					want = append(want, id)
				}
			}
			slices.Sort(want)
			for range 5 {
				if !slices.Equal(x.Users(), want) {
					t.Fatalf("%d users, step %d: %d", n, step, x.Users())
				}
			}
			for len(want) > 0 {
				i := len(want) * 2 / 3
				if !x.Leave(want[i]) {
					t.Fatal("Leave of", want[i])
				}
				want = slices.Delete(want, i, i+1)
				if !slices.Equal(x.Users(), want) {
					t.Fatalf("of %d users, step %d, there are %d left: %d", n, step, len(want), x.Users())
				}
			}
		}
	}
}

// calls are those that three users may make; ahead of them each is there.
func calls() []call {
	list := []call{{name: "revoke"}, {name: "tick"}}
	for id := 1; id <= 3; id++ {
		for _, name := range []string{"ask", "drop", "give", "leave"} {
			list = append(list, call{name: name, id: id})
		}
		list = append(list, call{"join", id, writer}, call{"set", id, observer}, call{"set", id, writer})
	}
	return list
}

// each goes on to a table and a model by all lists of so many calls.
func each(t *testing.T, lease, n int, ahead []call) {
	t.Helper()
	for _, c := range calls() {
		done := append(slices.Clone(ahead), c)
		x, m := table(floor.New(lease)), table(newModel(lease))
		for _, y := range []table{x, m} {
			for id := 1; id <= 3; id++ {
				y.Join(id, writer)
			}
			for _, a := range ahead {
				a.on(y)
			}
		}
		same(t, fmt.Sprint("lease ", lease, ", ", done), c, x, m)
		if n > 1 {
			each(t, lease, n-1, done)
		}
	}
}

// P10.1 to P10.4: all lists of up to four calls of three users, from nothing; and all of up to two, from where all of them stand in the line.
func TestAllCalls(t *testing.T) {
	each(t, 1, 3, nil)
	each(t, 2, 4, nil)
	for _, ahead := range []string{"ask 1,ask 2,ask 3", "ask 3,ask 1,ask 2,tick", "ask 2,give 1,ask 3,ask 2,tick", "set 2 2,ask 2,ask 3,set 1 0"} {
		var list []call
		for line := range strings.SplitSeq(ahead, ",") {
			list = append(list, read(line))
		}
		each(t, 1, 2, list)
		each(t, 2, 2, list)
		each(t, 3, 3, list)
	}
}

// dice are numbers without a plain pattern, always the same ones.
type dice uint32

func (d *dice) below(n int) int {
	*d = *d*1664525 + 1013904223
	return int(*d>>16) % n
}

// P10.1 to P10.4: long lists of calls of many users, wrong ones among them.
func TestManyCalls(t *testing.T) {
	names := []string{"join", "join", "leave", "set", "set", "ask", "ask", "ask", "ask", "drop", "give", "revoke", "tick", "tick", "tick"}
	roles := []floor.Role{-1, observer, writer, writer, writer, writer, owner, owner, 3}
	for _, lease := range []int{-5, 0, 1, 2, 3, 5, 17, 1000, 5000} {
		for _, users := range []int{1, 2, 3, 5, 16, 40} {
			d := dice(lease*100 + users)
			x, m := floor.New(lease), newModel(lease)
			for n := range 1500 {
				c := call{names[d.below(len(names))], d.below(users+3) - 1, roles[d.below(len(roles))]}
				same(t, fmt.Sprintf("lease %d, %d users, call %d", lease, users, n), c, x, m)
			}
		}
	}
}

// P10.3, rule 2: what is refused turns nothing that a later call could tell.
func TestRefused(t *testing.T) {
	for _, ahead := range []string{"", "ask 2", "ask 2,tick", "ask 2,ask 3,tick", "ask 2,ask 3,ask 1,tick,tick", "give 4,ask 2,ask 3"} {
		table := func() *floor.Table {
			x := seats(3)
			for line := range strings.SplitSeq(ahead, ",") {
				if line != "" {
					read(line).on(x)
				}
			}
			return x
		}
		asked, plain := table(), table()
		lines := []string{
			"join 0 1", "join -1 1", "join 7 3", "join 7 -1", "join 2 0", "join 6 2", "leave 0", "leave -1", "leave 9", "set 0 0", "set 9 1", "set 9 0", "set 2 3", "set 2 -1", "set 6 3",
			"ask 0", "ask -1", "ask 9", "ask 6", "drop 0", "drop -1", "drop 9", "drop 6", "drop 5", "give 0", "give -1", "give 9", "give 6",
		}
		if id := plain.Holder(); id != 0 {
			lines = append(lines, fmt.Sprint("ask ", id), fmt.Sprint("give ", id))
		} else {
			lines = append(lines, "revoke")
		}
		for _, id := range plain.Queue() {
			lines = append(lines, fmt.Sprint("ask ", id))
		}
		for _, line := range lines {
			if a := read(line).on(asked); a == "ok" || a == "true" {
				t.Errorf("behind %q: %s answers %s", ahead, line, a)
			}
			if is, must := stateOf(asked), stateOf(plain); is != must {
				t.Fatalf("behind %q: behind %s: %s, not %s", ahead, line, is, must)
			}
		}
		for n := range 20 {
			asked.Tick()
			plain.Tick()
			if is, must := stateOf(asked), stateOf(plain); is != must {
				t.Fatalf("behind %q: %d ticks later: %s, not %s", ahead, n+1, is, must)
			}
		}
	}
}

// P10.4: who is the k-th in the Queue holds the floor within k leases, and all who wait hold it, each for a lease, in their order.
func TestTurns(t *testing.T) {
	for _, lease := range []int{0, 1, 2, 3, 10, 999, 1000, 1001} {
		ticks := min(max(lease, 1), 1000)
		for _, waiting := range []int{1, 2, 3, 15, 40} {
			for _, gone := range []int{0, 1, ticks / 2, ticks - 1, ticks} {
				x := floor.New(lease)
				for id := 1; id <= waiting+1; id++ {
					x.Join(id, floor.Writer)
				}
				x.Ask(1)
				for range gone {
					x.Tick()
				}
				for k := waiting + 1; k >= 2; k-- {
					x.Ask(k)
				}
				turns(t, x, ticks)
			}
		}
	}
}

// turns lets ticks go by till all who wait held the floor.
func turns(t *testing.T, x *floor.Table, lease int) {
	t.Helper()
	line := x.Queue()
	first, when, went := x.Left(), map[int]int{}, 0
	for went < lease*len(line) {
		ahead := x.Holder()
		x.Tick()
		went++
		if x.Holder() == ahead {
			continue
		}
		when[x.Holder()] = went
		if x.Left() != lease {
			t.Fatalf("lease %d: %d holds the floor for %d ticks", lease, x.Holder(), x.Left())
		}
	}
	for i, id := range line {
		if want := first + i*lease; when[id] != want || want > (i+1)*lease {
			t.Fatalf("lease %d, %d wait: the %d. holds the floor behind %d ticks, not %d", lease, len(line), i+1, when[id], want)
		}
	}
	if last := line[len(line)-1]; x.Holder() != last || len(x.Queue()) != 0 {
		t.Fatalf("lease %d: %s, not %d alone", lease, floorOf(x), last)
	}
}

// P10.4: a long Queue goes by in order, while others come and go.
func TestLongQueue(t *testing.T) {
	const n = 2000
	x, m := floor.New(1), newModel(1)
	for id := 1; id <= n; id++ {
		for _, y := range []table{x, m} {
			y.Join(id, writer)
			y.Ask(id)
		}
	}
	for id := 3; id <= n; id += 3 {
		if x.Drop(id) != m.Drop(id) {
			t.Fatal("Drop of", id)
		}
	}
	for n := range n {
		if x.Holder() != m.Holder() || x.Left() != m.Left() || n%50 == 0 && !slices.Equal(x.Queue(), m.Queue()) {
			t.Fatalf("%d ticks: %s", n, floorOf(x))
		}
		x.Tick()
		m.Tick()
	}
	if s := floorOf(x); s != fmt.Sprint(n, " 1 []") {
		t.Error(s)
	}
}

// Rule 3: what is told is new memory: no later call turns it, and to write into it turns nothing.
func TestTold(t *testing.T) {
	x := seats(2)
	for id := 1; id <= 5; id++ {
		x.Ask(id)
	}
	queue, users := x.Queue(), x.Users()
	x.Drop(3)
	x.Tick()
	x.Tick()
	x.Leave(4)
	x.Ask(1)
	if !slices.Equal(queue, []int{2, 3, 4, 5}) || !slices.Equal(users, []int{1, 2, 3, 4, 5, 6}) {
		t.Errorf("turned to %d, %d", queue, users)
	}
	was := stateOf(x)
	for _, list := range [][]int{x.Queue(), x.Users(), queue, users} {
		list = list[:cap(list)]
		for i := range list {
			list[i] = 99
		}
	}
	if s := stateOf(x); s != was {
		t.Errorf("%s, not %s", s, was)
	}
	x.Ask(3)
	if s := floorOf(x); s != "2 2 [5 1 3]" {
		t.Error(s)
	}
}

// Rule 1: nothing panics of one that New didn't make; it is like New of 0.
func TestOwn(t *testing.T) {
	var none floor.Table
	if s := stateOf(&none); s != "0 0 []" || none.Leave(1) || none.SetRole(1, floor.Writer) || none.Ask(1) != api.ErrNone || none.Drop(1) != api.ErrNone || none.Give(1) != api.ErrNone || none.Revoke() != api.ErrState {
		t.Error(s)
	}
	none.Tick()
	m := newModel(0)
	for _, line := range []string{"join 2 1", "join 1 2", "join 3 0", "ask 2", "tick", "ask 1", "ask 3", "tick", "tick", "give 2", "leave 2", "revoke", "set 3 1", "ask 3", "drop 3"} {
		same(t, "one that New didn't make", read(line), &none, m)
	}
}

// Rule 4: tables know nothing of each other.
func TestTwo(t *testing.T) {
	one, two := floor.New(2), floor.New(5)
	one.Join(1, floor.Owner)
	two.Join(2, floor.Observer)
	two.Join(1, floor.Writer)
	one.Join(2, floor.Writer)
	one.Ask(2)
	two.Ask(1)
	one.Ask(1)
	one.Tick()
	two.Leave(2)
	if s := stateOf(one); s != "2 1 [1] 1:2 2:1" {
		t.Error("one:", s)
	}
	if s := stateOf(two); s != "1 5 [] 1:1" {
		t.Error("two:", s)
	}
}
