package order_test

import (
	"fmt"
	"math"
	"strconv"
	"strings"
	"testing"

	"kibitzer/api"
	"kibitzer/order"
)

// maxOffset is written out, so that the constant is tested too.
const maxOffset = 1099511627776

// kind is what the document says of one of them.
type kind struct {
	kind   order.Kind
	number int
	word   string
	counts bool
}

func kinds() []kind {
	return []kind{
		{order.Floor, 1, "floor", false},
		{order.Drop, 2, "drop", false},
		{order.List, 3, "list", false},
		{order.Detach, 4, "detach", false},
		{order.Revoke, 5, "revoke", false},
		{order.Give, 6, "give", true},
		{order.Kick, 7, "kick", true},
		{order.Write, 8, "write", true},
		{order.Watch, 9, "watch", true},
		{order.Replay, 10, "replay", true},
		{order.Limit, 11, "limit", true},
	}
}

// numbers are such as may be a command's N, and such as may not.
func numbers() []int64 {
	list := []int64{math.MinInt64, math.MinInt64 + 1, -maxOffset - 1, -maxOffset, -1 << 32, math.MaxInt64 - 1, math.MaxInt64}
	for _, at := range []int64{0, 16, 80, 100, 255, 1 << 16, 1 << 31, 1 << 32, 999999999999, maxOffset, 1 << 41, 1 << 48, 1 << 62} {
		for n := at - 2; n <= at+2; n++ {
			list = append(list, n)
		}
	}
	for n := int64(1); n < maxOffset; n *= 10 {
		list = append(list, n, n-1, 9*n)
	}
	return list
}

// numberOf reads decimal digits as the document writes them; false: they are none, or of a number that is too great.
func numberOf(s string) (int64, bool) {
	if s == "" || len(s) > 13 || s[0] == '0' && s != "0" {
		return 0, false
	}
	n := int64(0)
	for i := range len(s) {
		if s[i] < '0' || s[i] > '9' {
			return 0, false
		}
		n = n*10 + int64(s[i]-'0')
	}
	return n, n <= maxOffset
}

// model is the command of a line, in the words of the document; zero: there is none.
func model(s string) order.Order {
	for _, k := range kinds() {
		if !k.counts && s == k.word {
			return order.Order{Kind: k.kind}
		}
		if digits, ok := strings.CutPrefix(s, k.word+" "); ok && k.counts {
			if n, ok := numberOf(digits); ok {
				return order.Order{Kind: k.kind, N: n}
			}
		}
	}
	return order.Order{}
}

// parses holds what Parse tells of a line against what it must tell.
func parses(t *testing.T, s string, want order.Order) {
	t.Helper()
	e := api.OK
	if want == (order.Order{}) {
		e = api.ErrForm
	}
	if o, got := order.Parse(s); o != want || got != e {
		t.Fatalf("Parse of %q: %d of %d, %s; not %d of %d, %s", s, o.Kind, o.N, got.Word(), want.Kind, want.N, e.Word())
	}
}

// P9.1: the kinds are numbered from 1 on, in the document's order.
func TestKinds(t *testing.T) {
	for i, k := range kinds() {
		if int(k.kind) != k.number || k.number != i+1 {
			t.Errorf("%s is %d", k.word, k.kind)
		}
	}
}

// P9.1: lines of each kind, both ways.
func TestKnown(t *testing.T) {
	if api.MaxOffset != maxOffset {
		t.Fatal("MaxOffset")
	}
	for _, c := range []struct {
		line string
		want order.Order
	}{
		{"floor", order.Order{Kind: order.Floor}},
		{"drop", order.Order{Kind: order.Drop}},
		{"list", order.Order{Kind: order.List}},
		{"detach", order.Order{Kind: order.Detach}},
		{"revoke", order.Order{Kind: order.Revoke}},
		{"give 3", order.Order{Kind: order.Give, N: 3}},
		{"kick 16", order.Order{Kind: order.Kick, N: 16}},
		{"write 10", order.Order{Kind: order.Write, N: 10}},
		{"watch 205", order.Order{Kind: order.Watch, N: 205}},
		{"replay 65536", order.Order{Kind: order.Replay, N: 65536}},
		{"limit 9", order.Order{Kind: order.Limit, N: 9}},
		{"give 0", order.Order{Kind: order.Give}},
		{"kick 0", order.Order{Kind: order.Kick}},
		{"write 0", order.Order{Kind: order.Write}},
		{"watch 0", order.Order{Kind: order.Watch}},
		{"replay 0", order.Order{Kind: order.Replay}},
		{"limit 0", order.Order{Kind: order.Limit}},
		{"give 1099511627776", order.Order{Kind: order.Give, N: maxOffset}},
		{"replay 1099511627776", order.Order{Kind: order.Replay, N: maxOffset}},
		{"limit 1099511627775", order.Order{Kind: order.Limit, N: maxOffset - 1}},
	} {
		if !c.want.Right() {
			t.Errorf("%q isn't Right", c.line)
		}
		if s := c.want.String(); s != c.line {
			t.Errorf("%q, not %q", s, c.line)
		}
		parses(t, c.line, c.want)
	}
}

// P9.1: Right and String of each kind, and of kinds that are none, with each number; Parse of what String tells is the same command.
func TestEach(t *testing.T) {
	for _, n := range numbers() {
		for _, k := range kinds() {
			o := order.Order{Kind: k.kind, N: n}
			right, line := n == 0, k.word
			if k.counts {
				right, line = n >= 0 && n <= maxOffset, fmt.Sprintf("%s %d", k.word, n)
			}
			if o.Right() != right {
				t.Fatalf("Right of %s, %d: %t", k.word, n, !right)
			}
			if !right {
				if s := o.String(); s != "" {
					t.Fatalf("String of %s, %d: %q", k.word, n, s)
				}
				if k.counts {
					parses(t, line, order.Order{})
				}
				continue
			}
			if s := o.String(); s != line {
				t.Fatalf("String of %s, %d: %q", k.word, n, s)
			}
			parses(t, line, o)
		}
	}
}

// P9.1: a Kind that is none.
func TestNoKind(t *testing.T) {
	list := []order.Kind{math.MinInt, math.MinInt + 6, -1 << 32, -256, -12, -11, -6, -2, -1, 0, 12, 13, 14, 16, 17, 255, 256, 257, 262, 1 << 16, 1<<32 + 1, 1<<32 + 6, math.MaxInt - 1, math.MaxInt}
	for _, k := range list {
		for _, n := range numbers() {
			o := order.Order{Kind: k, N: n}
			if o.Right() || o.String() != "" {
				t.Fatalf("%d of %d: %t, %q", k, n, o.Right(), o.String())
			}
		}
	}
}

// P9.1: lines that are none, written out.
func TestNoLines(t *testing.T) {
	for _, c := range []struct{ why, line string }{
		{"no bytes", ""},
		{"a space", " "},
		{"a word that is none", "what"},
		{"a word that is none, and a number", "what 3"},
		{"no word, and a number", " 3"},
		{"a number alone", "3"},
		{"two words", "floor drop"},
		{"two words at once", "floordrop"},
		{"a beginning", "floo"},
		{"a beginning, and a number", "giv 3"},
		{"more behind the word", "floors"},
		{"more behind the word, and a number", "gives 3"},
		{"a great letter", "Floor"},
		{"a great letter, and a number", "Give 3"},
		{"great letters", "LIST"},
		{"a space ahead", " floor"},
		{"a space ahead, and a number", " give 3"},
		{"a space behind", "floor "},
		{"a number of one that has none", "floor 1"},
		{"0 of one that has none", "floor 0"},
		{"0 of the fifth", "revoke 0"},
		{"a number of the fifth", "revoke 3"},
		{"no number", "give"},
		{"no number, and a space", "give "},
		{"no number, and two spaces", "give  "},
		{"no number of the last", "limit"},
		{"no space", "give3"},
		{"two spaces", "give  3"},
		{"a tab", "give\t3"},
		{"a tab and a space", "give\t 3"},
		{"a space behind the number", "give 3 "},
		{"a line feed behind the number", "give 3\n"},
		{"a carriage return behind the word", "list\r"},
		{"a line feed behind the word", "list\n"},
		{"0 behind the word", "list\x00"},
		{"a nought ahead", "give 03"},
		{"noughts ahead", "give 0003"},
		{"two noughts", "give 00"},
		{"a sign", "give +3"},
		{"a sign below 0", "give -3"},
		{"a sign and 0", "give -0"},
		{"another sign and 0", "give +0"},
		{"a sign alone", "give -"},
		{"no digit", "give x"},
		{"no digit behind one", "give 3x"},
		{"no digit between two", "give 1_0"},
		{"a point", "give 3.0"},
		{"an exponent", "give 1e1"},
		{"hexadecimal digits", "give 0x3"},
		{"hexadecimal digits alone", "give a"},
		{"octal digits", "give 0o3"},
		{"binary digits", "give 0b1"},
		{"digits that aren't of one byte", "give \u0663"},
		{"two numbers", "give 3 4"},
		{"the command twice", "give 3give 3"},
		{"1 above MaxOffset", "give 1099511627777"},
		{"1 above MaxOffset of replay", "replay 1099511627777"},
		{"1 above MaxOffset of limit", "limit 1099511627777"},
		{"ten times MaxOffset", "give 10995116277760"},
		{"2 to the 63rd, less 1", "give 9223372036854775807"},
		{"2 to the 63rd", "give 9223372036854775808"},
		{"2 to the 64th", "give 18446744073709551616"},
		{"2 to the 64th and 3", "give 18446744073709551619"},
		{"below 0 by 2 to the 63rd", "give -9223372036854775808"},
		{"10 to the 40th", "give 1" + strings.Repeat("0", 40)},
		{"many noughts", "give " + strings.Repeat("0", 70) + "3"},
	} {
		if o, e := order.Parse(c.line); e != api.ErrForm || o != (order.Order{}) {
			t.Errorf("%s: Parse of %q: %d of %d, %s", c.why, c.line, o.Kind, o.N, e.Word())
		}
	}
}

// P9.1: lines of each kind, one byte turned to each other, taken away, or laid in.
func TestTurned(t *testing.T) {
	for _, k := range kinds() {
		lines := []string{k.word}
		if k.counts {
			lines = []string{k.word + " 0", k.word + " 7", k.word + " 10", k.word + " " + strconv.Itoa(maxOffset)}
		}
		for _, line := range lines {
			for i := range len(line) + 1 {
				for c := range 256 {
					s := line[:i] + string([]byte{byte(c)}) + line[i:]
					parses(t, s, model(s))
					if i < len(line) {
						s = line[:i] + string([]byte{byte(c)}) + line[i+1:]
						parses(t, s, model(s))
					}
				}
				parses(t, line[:i], model(line[:i]))
				parses(t, line[i:], model(line[i:]))
				if i < len(line) {
					s := line[:i] + line[i+1:]
					parses(t, s, model(s))
				}
			}
		}
	}
}

// P9.1: behind each word all texts of up to five of these bytes.
func TestAllTexts(t *testing.T) {
	const of = " 019+-x_"
	for _, k := range kinds() {
		for n := 0; n <= 5; n++ {
			for v := range 1 << (3 * n) {
				b := []byte(k.word)
				for i := range n {
					b = append(b, of[v>>(3*i)&7])
				}
				parses(t, string(b), model(string(b)))
			}
		}
	}
}

// P9.1: each number of few digits is told and read as it is, and each with a nought ahead is none.
func TestNumbers(t *testing.T) {
	for n := range int64(3000) {
		digits := strconv.FormatInt(n, 10)
		for _, k := range kinds()[5:] {
			o := order.Order{Kind: k.kind, N: n}
			if s := o.String(); s != k.word+" "+digits {
				t.Fatalf("%q", s)
			}
			parses(t, k.word+" "+digits, o)
			parses(t, k.word+" 0"+digits, order.Order{})
			parses(t, k.word+" -"+digits, order.Order{})
		}
	}
}

// Rule 1: long lines are none, and end.
func TestLong(t *testing.T) {
	for _, k := range kinds() {
		for _, more := range []string{" ", "0", "9", "x", "\x00", " 0", " 1", k.word} {
			parses(t, k.word+strings.Repeat(more, 1<<18), order.Order{})
			parses(t, k.word+" 1"+strings.Repeat(more, 1<<18), order.Order{})
			parses(t, strings.Repeat(more, 1<<18)+k.word, order.Order{})
		}
	}
}
