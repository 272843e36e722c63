package audit_test

import (
	"fmt"
	"math"
	"slices"
	"strings"
	"testing"

	"kibitzer/audit"
	"kibitzer/msg"
)

// The messages.
func welcome(b int64) msg.Msg           { return msg.Msg{Kind: msg.Welcome, A: 1, B: b, Text: "owner"} }
func data(a int64, text string) msg.Msg { return msg.Msg{Kind: msg.Data, A: a, Text: text} }
func gap(a, b int64) msg.Msg            { return msg.Msg{Kind: msg.Gap, A: a, B: b} }

var (
	evicted = msg.Msg{Kind: msg.Evicted}
	closed  = msg.Msg{Kind: msg.Closed, A: 6}
	pong    = msg.Msg{Kind: msg.Pong}
)

// tells holds First against what it must tell.
func tells(t *testing.T, why string, list []msg.Msg, output string, strikes, want int) {
	t.Helper()
	if got := audit.First(list, output, strikes); got != want {
		t.Errorf("%s: of %+v, %d bytes of output, %d strikes: %d, not %d", why, list, len(output), strikes, got, want)
	}
}

// P15.1: the document's example.
func TestExample(t *testing.T) {
	tells(t, "Data elsewhere", []msg.Msg{welcome(0), data(1, "b")}, "abc", 1, 1)
	tells(t, "Data there", []msg.Msg{welcome(1), data(1, "b")}, "abc", 1, -1)
}

// P15.1: of no messages none may not be.
func TestNone(t *testing.T) {
	for _, output := range []string{"", "abc"} {
		for _, strikes := range []int{math.MinInt, -1, 0, 1, math.MaxInt} {
			tells(t, "nil", nil, output, strikes, -1)
			tells(t, "empty", []msg.Msg{}, output, strikes, -1)
		}
	}
}

// What the course's messages are of, and how many strikes it needs.
const letters, needs = "abcdefghij", 2

// place is how it stands ahead of a message.
type place struct {
	upTo int64
	gaps int
}

// course is messages that may be, and how it stands ahead of each, and behind them all.
func course() ([]msg.Msg, []place) {
	list := []msg.Msg{
		welcome(2),
		{Kind: msg.Floor, A: 3},
		data(2, "cd"),
		gap(4, 6),
		{Kind: msg.Notice, Text: "left 2"},
		data(6, "g"),
		data(7, "h"),
		gap(8, 9),
		{Kind: msg.Reject, A: 7, B: 5},
		data(9, "j"),
		{Kind: msg.Exit, A: 255},
	}
	return list, []place{{0, 0}, {2, 0}, {2, 0}, {4, 0}, {6, 1}, {6, 1}, {7, 1}, {8, 1}, {9, 2}, {9, 2}, {10, 2}, {10, 2}}
}

// turned is a message with something turned in it.
func turned(m msg.Msg, turn func(m *msg.Msg)) msg.Msg {
	turn(&m)
	return m
}

// Numbers that no A and no B may be.
var noNumbers = []int64{math.MinInt64, math.MinInt64 + 1, -1 << 40, -1, 1<<40 + 1, 1 << 41, math.MaxInt64 - 1, math.MaxInt64}

// notRight are messages that aren't Right, each by something else.
func notRight(p place) []msg.Msg {
	list := []msg.Msg{
		{},
		turned(data(p.upTo, "c"), func(m *msg.Msg) { m.B = 1 }),
		turned(data(p.upTo, "c"), func(m *msg.Msg) { m.B = p.upTo }),
		turned(gap(p.upTo, 10), func(m *msg.Msg) { m.Text = "c" }),
		turned(welcome(2), func(m *msg.Msg) { m.Text = strings.Repeat("w", 21) }),
		{Kind: msg.Floor, B: 1},
		{Kind: msg.Floor, Text: "f"},
		{Kind: msg.Reject, Text: "r"},
		{Kind: msg.Notice, A: 1},
		{Kind: msg.Notice, B: 1},
		{Kind: msg.Notice, Text: strings.Repeat("n", 81)},
		{Kind: msg.Denied, A: 1},
		{Kind: msg.Denied, B: 1},
		{Kind: msg.Denied, Text: strings.Repeat("d", 81)},
		{Kind: msg.Evicted, A: 1},
		{Kind: msg.Evicted, B: 1},
		{Kind: msg.Evicted, Text: "e"},
		{Kind: msg.Closed, A: 1, B: 1},
		{Kind: msg.Closed, A: 1, Text: "c"},
		{Kind: msg.Pong, A: 1},
		{Kind: msg.Pong, B: 1},
		{Kind: msg.Pong, Text: "p"},
		{Kind: msg.Exit, B: 1},
		{Kind: msg.Exit, Text: "x"},
	}
	for _, k := range []msg.Kind{math.MinInt, -1, 0, 16, 17, 256 + msg.Data, 256 + msg.Pong, 1<<32 + msg.Notice, math.MaxInt} {
		list = append(list, msg.Msg{Kind: k}, msg.Msg{Kind: k, A: p.upTo, Text: "c"})
	}
	for _, n := range noNumbers {
		list = append(list,
			turned(welcome(2), func(m *msg.Msg) { m.A = n }),
			welcome(n), data(n, "c"), gap(n, 10), gap(p.upTo, n),
			msg.Msg{Kind: msg.Floor, A: n}, msg.Msg{Kind: msg.Closed, A: n}, msg.Msg{Kind: msg.Exit, A: n},
			msg.Msg{Kind: msg.Reject, A: n}, msg.Msg{Kind: msg.Reject, B: n},
		)
	}
	return list
}

// ofUsers are messages of users that are Right.
func ofUsers() []msg.Msg {
	return []msg.Msg{
		{Kind: msg.Hello}, {Kind: msg.Hello, A: 5, B: 2, Text: "ann"}, {Kind: msg.Hello, A: 1 << 40, B: 1 << 40},
		{Kind: msg.Keys}, {Kind: msg.Keys, A: 2, Text: "cd"}, {Kind: msg.Keys, A: 6, Text: "g"}, {Kind: msg.Keys, A: 9, Text: "j"},
		{Kind: msg.Ping}, {Kind: msg.Bye},
	}
}

// wrongHere are messages that are Right, and may not be at a place of the course behind the first, each for one reason.
func wrongHere(p place) []msg.Msg {
	rest := letters[p.upTo:]
	list := append(ofUsers(), welcome(0), welcome(2), welcome(p.upTo), welcome(10), welcome(11), data(p.upTo, ""), data(p.upTo, rest+"k"), data(p.upTo, "x"+rest), data(p.upTo, rest+"\x00"))
	for i := range rest {
		list = append(list, data(p.upTo, rest[:i]+"X"+rest[i+1:]), data(p.upTo, rest[:i]+"X"))
	}
	for a := range int64(13) {
		if a != p.upTo {
			list = append(list, data(a, letters[min(a, 10):]), data(a, ""), data(a, rest), gap(a, a+1), gap(a, 10))
		}
	}
	for _, a := range []int64{1<<32 + p.upTo, 1<<40 - 1, 1 << 40} {
		list = append(list, data(a, rest+"k"), data(a, ""), gap(a, 1<<40), gap(p.upTo, a), gap(a, a))
	}
	for b := range int64(13) {
		if b <= p.upTo || b > 10 {
			list = append(list, gap(p.upTo, b))
		}
	}
	return list
}

// fine are messages that may stand anywhere behind a first one, and leave all as it was.
func fine() []msg.Msg {
	return []msg.Msg{
		{Kind: msg.Reject}, {Kind: msg.Reject, A: 1 << 40, B: 1 << 40},
		{Kind: msg.Floor}, {Kind: msg.Floor, A: 16}, {Kind: msg.Floor, A: 1 << 40},
		{Kind: msg.Notice}, {Kind: msg.Notice, Text: strings.Repeat("n", 80)},
		{Kind: msg.Denied}, {Kind: msg.Denied, Text: strings.Repeat("d", 80)},
		pong, {Kind: msg.Exit}, {Kind: msg.Exit, A: 1 << 40},
	}
}

// with is messages with one more, at a place.
func with(list []msg.Msg, at int, m msg.Msg) []msg.Msg {
	return slices.Insert(slices.Clone(list), at, m)
}

// P15.1: a course that may be, each part of it from its beginning on, and each other message in it that may be.
func TestCourse(t *testing.T) {
	list, places := course()
	for n := range len(list) + 1 {
		tells(t, "the beginning of the course", list[:n], letters, needs, -1)
	}
	for at := range places[1:] {
		for _, m := range fine() {
			tells(t, "one more", with(list, at+1, m), letters, needs, -1)
			tells(t, "two more", with(with(list, at+1, m), at+1, m), letters, needs, -1)
		}
	}
}

// P15.1: each reason for which a message may not be, at each place of the course.
func TestEachReason(t *testing.T) {
	list, places := course()
	for at, p := range places {
		wrong := notRight(p)
		if at > 0 {
			wrong = append(wrong, wrongHere(p)...)
		}
		for _, m := range wrong {
			tells(t, fmt.Sprintf("in the course, at %d", at), with(list, at, m), letters, needs, at)
			tells(t, fmt.Sprintf("the last, at %d", at), with(list[:at], at, m), letters, needs, at)
		}
	}
}

// P15.1: of two that may not be it is the first.
func TestFirstOfTwo(t *testing.T) {
	list, places := course()
	for at := 1; at < len(places); at++ {
		wrong := []msg.Msg{{}, {Kind: msg.Ping}, welcome(2), data(places[at].upTo, ""), data(places[at].upTo+1, "d"), gap(places[at].upTo, 11)}
		for _, one := range wrong {
			for behind := at; behind < len(places); behind++ {
				for _, other := range wrong {
					tells(t, fmt.Sprintf("at %d and %d", at, behind+1), with(with(list, at, one), behind+1, other), letters, needs, at)
				}
			}
		}
	}
	tells(t, "the first and the second", []msg.Msg{pong, {Kind: msg.Hello}}, letters, needs, 0)
	tells(t, "no Welcome, and Data elsewhere", []msg.Msg{{Kind: msg.Floor}, data(3, "d")}, letters, needs, 0)
}

// P15.1: the first message is Welcome, with B at the number of output's bytes, one above and far above, or Closed, or may not be.
func TestFirst(t *testing.T) {
	for _, output := range []string{"", "a", letters, strings.Repeat("x", 70000)} {
		n := int64(len(output))
		for _, b := range []int64{0, n / 2, max(n-1, 0), n} {
			tells(t, "Welcome", []msg.Msg{welcome(b)}, output, 0, -1)
			tells(t, "Welcome and what it has", []msg.Msg{{Kind: msg.Welcome, A: 1 << 40, B: b, Text: strings.Repeat("w", 20)}}, output, 0, -1)
			tells(t, "Welcome and nothing else", []msg.Msg{{Kind: msg.Welcome, B: b}}, output, -1, -1)
		}
		for _, b := range []int64{n + 1, n + 2, n + 1<<32, 1<<40 - 1, 1 << 40} {
			tells(t, "Welcome beyond the output", []msg.Msg{welcome(b)}, output, 9, 0)
			tells(t, "Welcome beyond the output, and more", []msg.Msg{welcome(b), pong, data(b, "a")}, output, 9, 0)
		}
		for _, a := range []int64{0, 1, 6, 7, 1 << 40} {
			tells(t, "Closed", []msg.Msg{{Kind: msg.Closed, A: a}}, output, 0, -1)
		}
		for _, m := range append(append(fine(), ofUsers()...), evicted, data(0, "a"), data(0, letters), data(0, ""), gap(0, 1), gap(0, 10), gap(0, 0)) {
			tells(t, "another first", []msg.Msg{m}, output, 9, 0)
			tells(t, "another first, and Welcome", []msg.Msg{m, welcome(0)}, output, 9, 0)
		}
	}
}

// P15.1: behind Evicted and behind Closed nothing may be, wherever they stand.
func TestBehindTheLast(t *testing.T) {
	list, places := course()
	for _, last := range []msg.Msg{evicted, closed, {Kind: msg.Closed}} {
		for at := 1; at < len(places); at++ {
			p := places[at]
			ahead := with(list[:at], at, last)
			tells(t, "the last", ahead, letters, needs, -1)
			behind := append(append(fine(), ofUsers()...), msg.Msg{}, welcome(p.upTo), evicted, closed)
			if p.upTo < 10 {
				behind = append(behind, data(p.upTo, letters[p.upTo:]), gap(p.upTo, 10))
			}
			for _, m := range behind {
				tells(t, "one behind the last", with(ahead, at+1, m), letters, 9, at+1)
				tells(t, "two behind the last", append(slices.Clone(ahead), m, m), letters, 9, at+1)
			}
		}
	}
	for _, m := range append(append(fine(), ofUsers()...), msg.Msg{}, welcome(0), evicted, closed, data(0, "a"), gap(0, 1)) {
		tells(t, "behind a first Closed", []msg.Msg{closed, m}, letters, 9, 1)
		tells(t, "behind a first Closed, two", []msg.Msg{closed, m, m}, letters, 9, 1)
	}
}

// P15.1: Welcome that isn't the first, whatever stands ahead of it.
func TestSecondWelcome(t *testing.T) {
	for b := range int64(12) {
		tells(t, "the second", []msg.Msg{welcome(3), welcome(b)}, letters, 9, 1)
		tells(t, "the same", []msg.Msg{welcome(min(b, 10)), welcome(min(b, 10))}, letters, 9, 1)
		tells(t, "the third", []msg.Msg{welcome(3), data(3, "d"), welcome(b), data(min(b, 10), "x")}, letters, 9, 2)
		tells(t, "behind a Gap", []msg.Msg{welcome(3), gap(3, 5), welcome(b)}, letters, 9, 2)
		tells(t, "behind Floor", []msg.Msg{welcome(3), {Kind: msg.Floor}, welcome(b), pong}, letters, 9, 2)
	}
}

// P15.1: Data from one below to one above where it was sent up to, of each length there is.
func TestData(t *testing.T) {
	output := "aabbccddee"
	for upTo := range int64(11) {
		for a := range int64(11) {
			for n := range 10 - int(a) + 1 {
				want := 1
				if a == upTo && n > 0 {
					want = -1
				}
				tells(t, "Data", []msg.Msg{welcome(upTo), data(a, output[a:][:n])}, output, 0, want)
			}
			tells(t, "Data to one byte beyond", []msg.Msg{welcome(upTo), data(a, output[a:]+"f")}, output, 0, 1)
		}
		tells(t, "the bytes of one below, all the same", []msg.Msg{welcome(upTo), data(upTo, "z"+output[upTo:])}, output, 0, 1)
	}
	for _, c := range []struct {
		why    string
		output string
		list   []msg.Msg
		want   int
	}{
		{"of an output without a byte", "", []msg.Msg{welcome(0), data(0, "a")}, 1},
		{"empty, of an output without a byte", "", []msg.Msg{welcome(0), data(0, "")}, 1},
		{"A one above an output without a byte", "", []msg.Msg{welcome(0), data(1, "")}, 1},
		{"empty at the end", "abc", []msg.Msg{welcome(3), data(3, "")}, 1},
		{"one at the end", "abc", []msg.Msg{welcome(3), data(3, "a")}, 1},
		{"up to the end, and one more", "abc", []msg.Msg{welcome(1), data(1, "bc"), data(3, "a")}, 2},
		{"up to the end, and an empty one", "abc", []msg.Msg{welcome(1), data(1, "bc"), data(3, "")}, 2},
		{"the same ones again", "abab", []msg.Msg{welcome(0), data(0, "ab"), data(0, "ab")}, 2},
		{"the same bytes further on", "abab", []msg.Msg{welcome(0), data(0, "ab"), data(2, "ab")}, -1},
		{"the same bytes, one left out", "aaaa", []msg.Msg{welcome(0), data(0, "a"), data(2, "a")}, 2},
		{"the same bytes, one twice", "aaaa", []msg.Msg{welcome(0), data(0, "aa"), data(1, "a")}, 2},
		{"bytes that are in the output, but not there", "abcd", []msg.Msg{welcome(0), data(0, "cd")}, 1},
		{"the first bytes of the output, not there", "abcd", []msg.Msg{welcome(2), data(2, "ab")}, 1},
		{"bytes that are no signs", "a\x00\xff\n\xc3", []msg.Msg{welcome(0), data(0, "a\x00"), data(2, "\xff\n"), data(4, "\xc3")}, -1},
		{"another byte that is no sign", "\xff", []msg.Msg{welcome(0), data(0, "\xfe")}, 1},
		{"what stands for a byte that is no sign", "\xff\xbf\xbd", []msg.Msg{welcome(0), data(0, "\xef\xbf\xbd")}, 1},
		{"a great letter", "abc", []msg.Msg{welcome(0), data(0, "A")}, 1},
	} {
		tells(t, c.why, c.list, c.output, 0, c.want)
	}
}

// P15.1: Data of as many bytes as may be, and one more, of which the output has enough.
func TestLongData(t *testing.T) {
	output := strings.Repeat("0123456789", 500)
	tells(t, "as many as may be", []msg.Msg{welcome(7), data(7, output[7:][:2042]), data(2049, output[2049:][:2042])}, output, 0, -1)
	tells(t, "one more", []msg.Msg{welcome(7), data(7, output[7:][:2043])}, output, 0, 1)
	tells(t, "the last byte is otherwise", []msg.Msg{welcome(7), data(7, output[7:][:2041]+"x")}, output, 0, 1)
}

// P15.1: a Gap from one below to one above where it was sent up to, to each byte.
func TestGap(t *testing.T) {
	for upTo := range int64(11) {
		for a := range int64(12) {
			for b := range int64(13) {
				want := 1
				if a == upTo && b > a && b <= 10 {
					want = -1
				}
				tells(t, "a Gap", []msg.Msg{welcome(upTo), gap(a, b)}, letters, 1, want)
			}
		}
	}
	for _, b := range []int64{0, 1, 1 << 40} {
		tells(t, "of an output without a byte", []msg.Msg{welcome(0), gap(0, b)}, "", 9, 1)
	}
}

// P15.1: as many Gaps as strikes, one fewer, one more; strikes 0 and below 0.
func TestStrikes(t *testing.T) {
	output := strings.Repeat("x", 40)
	for gaps := range 12 {
		list := []msg.Msg{welcome(0)}
		for i := range gaps {
			list = append(list, gap(int64(3*i), int64(3*i+2)), data(int64(3*i+2), "x"), pong)
		}
		for strikes := -2; strikes <= 14; strikes++ {
			want := -1
			if gaps > max(strikes, 0) {
				want = 1 + 3*max(strikes, 0)
			}
			tells(t, fmt.Sprintf("%d Gaps", gaps), list, output, strikes, want)
		}
		for _, strikes := range []int{math.MinInt, -1 << 32, -1} {
			tells(t, "far below 0", list, output, strikes, min(gaps, 1)*2-1)
		}
		tells(t, "as great as there are", list, output, math.MaxInt, -1)
		tells(t, "great", list, output, 1<<32, -1)
	}
}

// P15.1: where it was sent up to behind Welcome, Data and Gaps, in any order.
func TestSentUpTo(t *testing.T) {
	for _, c := range []struct {
		why  string
		list []msg.Msg
		want int
	}{
		{"Data behind a Gap, where it ended", []msg.Msg{welcome(1), gap(1, 4), data(4, "e")}, -1},
		{"Data behind a Gap, where that began", []msg.Msg{welcome(1), gap(1, 4), data(1, "b")}, 2},
		{"Data behind a Gap, one below", []msg.Msg{welcome(1), gap(1, 4), data(3, "d")}, 2},
		{"Data behind a Gap, one above", []msg.Msg{welcome(1), gap(1, 4), data(5, "f")}, 2},
		{"a Gap behind Data, where it ended", []msg.Msg{welcome(1), data(1, "bcd"), gap(4, 6)}, -1},
		{"a Gap behind Data, where that began", []msg.Msg{welcome(1), data(1, "bcd"), gap(1, 6)}, 2},
		{"a Gap behind Data, one below", []msg.Msg{welcome(1), data(1, "bcd"), gap(3, 6)}, 2},
		{"a Gap behind Data, one above", []msg.Msg{welcome(1), data(1, "bcd"), gap(5, 6)}, 2},
		{"a Gap behind a Gap", []msg.Msg{welcome(1), gap(1, 4), gap(4, 5)}, -1},
		{"a Gap behind a Gap, one above", []msg.Msg{welcome(1), gap(1, 4), gap(5, 6)}, 2},
		{"a Gap behind a Gap, one below", []msg.Msg{welcome(1), gap(1, 4), gap(3, 6)}, 2},
		{"the same Gap again", []msg.Msg{welcome(1), gap(1, 4), gap(1, 4)}, 2},
		{"Data behind Data", []msg.Msg{welcome(1), data(1, "bc"), data(3, "de")}, -1},
		{"Data behind Data, one below", []msg.Msg{welcome(1), data(1, "bc"), data(2, "cd")}, 2},
		{"Data behind Data, one above", []msg.Msg{welcome(1), data(1, "bc"), data(4, "e")}, 2},
		{"a Gap up to the end, and Data", []msg.Msg{welcome(1), gap(1, 10), data(10, "k")}, 2},
		{"a Gap up to the end, and a Gap", []msg.Msg{welcome(1), gap(1, 10), gap(10, 11)}, 2},
		{"Data up to the end, and a Gap", []msg.Msg{welcome(8), data(8, "ij"), gap(10, 11)}, 2},
		{"others between turn nothing", []msg.Msg{welcome(1), {Kind: msg.Reject, A: 5, B: 6}, data(1, "b"), {Kind: msg.Floor, A: 9}, gap(2, 3), {Kind: msg.Exit, A: 1}, data(3, "d"), {Kind: msg.Notice, Text: "defg"}, data(4, "e")}, -1},
		{"others take no strike", append(append([]msg.Msg{welcome(1)}, slices.Repeat([]msg.Msg{{Kind: msg.Reject, A: 1, B: 2}, pong}, 20)...), gap(1, 2)), -1},
		{"behind Data that may not be, Data from its end on", []msg.Msg{welcome(1), data(2, "c"), data(3, "d")}, 1},
	} {
		tells(t, c.why, c.list, letters, 9, c.want)
	}
}

// P15.1: many messages.
func TestMany(t *testing.T) {
	output := strings.Repeat("0123456789\n", 30000)
	list := []msg.Msg{welcome(0)}
	for i := range output {
		list = append(list, data(int64(i), output[i:i+1]))
	}
	is := func(want int) {
		t.Helper()
		if got := audit.First(list, output, 0); got != want {
			t.Errorf("%d, not %d", got, want)
		}
	}
	is(-1)
	list[len(list)-1].Text = "x"
	is(len(list) - 1)
	list[len(list)/2].A++
	is(len(list) / 2)
}

// What is handed in is neither changed nor kept, and the same is told each time.
func TestHandedIn(t *testing.T) {
	list, _ := course()
	list = append(list, welcome(1), msg.Msg{}, pong)
	was := slices.Clone(list)
	for range 3 {
		tells(t, "the course, and more", list, letters, needs, len(list)-3)
		tells(t, "fewer strikes", list, letters, needs-1, 7)
		tells(t, "a part of it", list[:4], letters, needs, -1)
		tells(t, "another output", list, strings.ToUpper(letters), needs, 2)
	}
	if !slices.Equal(list, was) {
		t.Errorf("%+v, not %+v", list, was)
	}
	list[2].Text = "ce"
	tells(t, "turned behind First", list, letters, needs, 2)
}
