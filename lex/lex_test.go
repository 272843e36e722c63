package lex_test

import (
	"bytes"
	"fmt"
	"slices"
	"strings"
	"testing"

	"kibitzer/api"
	"kibitzer/lex"
)

// model goes through all bytes that came from the first on, in the words of the document.
func model(came string) (keys string, commands []string) {
	for b := came; len(b) > 0; {
		switch {
		case b[0] != 0x1d:
			keys += b[:1]
			b = b[1:]
		case len(b) == 1:
			return keys, commands
		case b[1] == ':':
			line, behind, ended := strings.Cut(b[2:], "\n")
			if !ended {
				return keys, commands
			}
			if len(line) > 80 {
				line = ""
			}
			commands = append(commands, line)
			b = behind
		default:
			if b[1] == 0x1d {
				keys += "\x1d"
			}
			b = b[2:]
		}
	}
	return keys, commands
}

// told is what a lexer told by and by.
type told struct {
	l        *lex.Lexer
	keys     string
	commands []string
}

func (o *told) push(piece string) {
	k, c := o.l.Push([]byte(piece))
	o.keys += string(k)
	o.commands = append(o.commands, c...)
}

// is holds what was told against what must have been.
func (o *told) is(t *testing.T, why, keys string, commands []string) {
	t.Helper()
	if o.keys != keys {
		t.Fatalf("%s: the keystrokes are %q, not %q", why, o.keys, keys)
	}
	if !slices.Equal(o.commands, commands) {
		t.Fatalf("%s: the commands are %q, not %q", why, o.commands, commands)
	}
}

// ways pushes a text as a whole, and in two and three pieces, and byte by byte, each time to a new lexer.
func ways(t *testing.T, text string, check func(o *told, why string)) {
	t.Helper()
	push := func(pieces ...string) {
		t.Helper()
		o := &told{l: lex.New()}
		for _, p := range pieces {
			o.push(p)
		}
		check(o, fmt.Sprintf("%q", pieces))
	}
	push(text)
	for i := range len(text) + 1 {
		push(text[:i], text[i:])
		for j := i; j <= len(text); j++ {
			push(text[:i], text[i:j], text[j:])
		}
	}
	push(strings.Split(text, "")...)
}

// noise is bytes of those handed in, without a plain pattern, always the same ones.
func noise(n int, of string, seed uint32) string {
	b := make([]byte, n)
	x := seed
	for i := range b {
		x = x*1664525 + 1013904223
		b[i] = of[int(x>>16)%len(of)]
	}
	return string(b)
}

// all is each byte there is.
func all() string {
	b := make([]byte, 256)
	for i := range b {
		b[i] = byte(i)
	}
	return string(b)
}

// P8.1: what is told of which bytes, written out, in whatever pieces.
func TestKnown(t *testing.T) {
	for _, c := range []struct {
		why, text, keys string
		commands        []string
	}{
		{"nothing", "", "", nil},
		{"the document's example", "a\x1d:list\nb", "ab", []string{"list"}},
		{"keystrokes", "abc", "abc", nil},
		{"a line feed and a colon that are keystrokes", ":a\n:\n", ":a\n:\n", nil},
		{"0, 0x1b, 0x1c, 0x1e, 0x7f and bytes above it", "\x00\x1b\x1c\x1e\x7f\x80\xff\u00e9", "\x00\x1b\x1c\x1e\x7f\x80\xff\u00e9", nil},
		{"Escape alone", "\x1d", "", nil},
		{"Escape at the end", "ab\x1d", "ab", nil},
		{"Escape and Escape", "\x1d\x1d", "\x1d", nil},
		{"Escape thrice", "\x1d\x1d\x1d", "\x1d", nil},
		{"Escape four times", "\x1d\x1d\x1d\x1d", "\x1d\x1d", nil},
		{"Escape, Escape and a colon: no command", "\x1d\x1d:list\n", "\x1d:list\n", nil},
		{"Escape thrice and a colon", "\x1d\x1d\x1d:list\n", "\x1d", []string{"list"}},
		{"Escape and another byte", "a\x1dxb", "ab", nil},
		{"Escape and a line feed", "a\x1d\nb", "ab", nil},
		{"Escape and another byte, and a colon behind it", "\x1dx:list\n", ":list\n", nil},
		{"Escape and a byte above 0x7f", "\x1d\xffb", "b", nil},
		{"Escape and 0", "\x1d\x00b", "b", nil},
		{"Escape and another byte, twice", "\x1dx\x1dyz", "z", nil},
		{"Escape and another byte, then a command", "\x1dx\x1d:drop\n", "", []string{"drop"}},
		{"a command of no bytes", "\x1d:\n", "", []string{""}},
		{"a command of one byte", "\x1d:x\n", "", []string{"x"}},
		{"a command that didn't end", "a\x1d:list", "a", nil},
		{"a command that didn't begin wholly", "a\x1d:", "a", nil},
		{"a colon in a command", "\x1d::a:b:\n", "", []string{":a:b:"}},
		{"a carriage return is the command's", "\x1d:list\r\nb", "b", []string{"list\r"}},
		{"spaces are the command's", "\x1d: give  2 \nb", "b", []string{" give  2 "}},
		{"Escape in a command", "\x1d:gi\x1dve 2\nb", "b", []string{"gi\x1dve 2"}},
		{"Escape and Escape in a command", "\x1d:a\x1d\x1db\nc", "c", []string{"a\x1d\x1db"}},
		{"Escape and a colon in a command", "\x1d:a\x1d:b\nc", "c", []string{"a\x1d:b"}},
		{"Escape, the first and the last byte of a command", "\x1d:\x1da\x1d\nb", "b", []string{"\x1da\x1d"}},
		{"a command of Escape alone", "\x1d:\x1d\nb", "b", []string{"\x1d"}},
		{"0 and bytes above 0x7f in a command", "\x1d:\x00\x80\xff\nb", "b", []string{"\x00\x80\xff"}},
		{"several commands", "\x1d:a\n\x1d:b\n\x1d:a\n", "", []string{"a", "b", "a"}},
		{"keystrokes between commands", "1\x1d:a\n2\n\x1d:b\n3", "12\n3", []string{"a", "b"}},
		{"two line feeds behind a command", "\x1d:a\n\nb", "\nb", []string{"a"}},
		{"commands of no bytes between others", "\x1d:\n\x1d:a\n\x1d:\n\x1d:\n", "", []string{"", "a", "", ""}},
		{"a command behind one that has the same beginning", "\x1d:give 10\n\x1d:give 1\n", "", []string{"give 10", "give 1"}},
	} {
		ways(t, c.text, func(o *told, how string) {
			t.Helper()
			o.is(t, c.why+": "+how, c.keys, c.commands)
		})
	}
}

// P8.1: a command of up to MaxLine bytes is told as it is, one of more as a text of nothing, and what comes behind it is told as ever.
func TestLengths(t *testing.T) {
	if api.MaxLine != 80 {
		t.Fatal("MaxLine")
	}
	lengths := []int{255, 256, 257, 2048, 65535, 65536, 65537, 1 << 20}
	for n := range 200 {
		lengths = append(lengths, n)
	}
	for _, n := range lengths {
		for _, of := range []string{"z", "\x1d", "ab\x1d:\xff "} {
			line := noise(n, of, uint32(n))
			want := line
			if n > 80 {
				want = ""
			}
			text := "a\x1d:" + line + "\nb\x1d:list\nc\x1d:" + line + "\nd"
			for _, size := range []int{len(text), 1, 2, 79, 80, 81, 1000} {
				o := &told{l: lex.New()}
				for piece := range slices.Chunk([]byte(text), size) {
					o.push(string(piece))
				}
				o.is(t, fmt.Sprintf("a command of %d bytes, in pieces of %d", n, size), "abcd", []string{want, "list", want})
			}
		}
	}
}

// P8.1: bytes up to the 80th and behind it come in two pieces, parted at each place.
func TestLengthsInTwoPieces(t *testing.T) {
	for n := 77; n <= 84; n++ {
		line := strings.Repeat("z", n)
		want := line
		if n > 80 {
			want = ""
		}
		text := "\x1d:" + line + "\n\x1d:drop\n"
		for i := range len(text) + 1 {
			o := &told{l: lex.New()}
			o.push(text[:i])
			o.push(text[i:])
			o.is(t, fmt.Sprintf("%d bytes, parted at %d", n, i), "", []string{want, "drop"})
		}
	}
}

// P8.1: each byte behind each thing that it may stand behind, and that what comes next is taken as it must be.
func TestEachByte(t *testing.T) {
	for _, ahead := range []string{"", "a", "\x1d", "\x1d\x1d", "\x1dx", "\x1d:", "\x1d:a", "\x1d:a\x1d", "\x1d:a\n", "\x1d:\n\x1d"} {
		for c := range 256 {
			for _, behind := range []string{"", "x", ":y\n", "\x1d", "\x1d:y\n", "\nz\x1d:y\n"} {
				text := ahead + string([]byte{byte(c)}) + behind
				keys, commands := model(text)
				whole, single := &told{l: lex.New()}, &told{l: lex.New()}
				whole.push(text)
				for i := range len(text) {
					single.push(text[i : i+1])
				}
				whole.is(t, fmt.Sprintf("%q", text), keys, commands)
				single.is(t, fmt.Sprintf("%q byte by byte", text), keys, commands)
			}
		}
	}
}

// P8.1: all texts of up to seven of these bytes; each keystroke and each command is told as soon as its last byte came.
func TestAllTexts(t *testing.T) {
	const of = "a\x1d:\n"
	for n := 1; n <= 7; n++ {
		for k := range 1 << (2 * n) {
			text := make([]byte, n)
			for i := range text {
				text[i] = of[k>>(2*i)&3]
			}
			o := &told{l: lex.New()}
			for i := range text {
				o.push(string(text[i : i+1]))
				keys, commands := model(string(text[:i+1]))
				o.is(t, fmt.Sprintf("%q, byte by byte", text[:i+1]), keys, commands)
			}
			whole := &told{l: lex.New()}
			whole.push(string(text))
			whole.is(t, fmt.Sprintf("%q", text), o.keys, o.commands)
		}
	}
}

// P8.1: long texts of bytes of many kinds, in pieces of many lengths, none among them.
func TestNoise(t *testing.T) {
	kinds := []string{all(), "a\x1d:\n", "ab\x1d\x1d\x1d:", "\x1d:\n", "\x1d:" + strings.Repeat("abcd", 20) + "\n", all() + strings.Repeat("\x1d:\n", 30)}
	for i, of := range kinds {
		for seed := range uint32(12) {
			text := noise(1500, of, uint32(i)*1000+seed)
			o := &told{l: lex.New()}
			done := 0
			for n := int(seed); done < len(text); n = (n*5 + 3) % 113 {
				piece := text[done:min(done+n, len(text))]
				done += len(piece)
				o.push(piece)
				keys, commands := model(text[:done])
				o.is(t, fmt.Sprintf("%q", text[:done]), keys, commands)
			}
		}
	}
}

// P8.1: Push tells what came just then, not what was told once.
func TestToldOnce(t *testing.T) {
	l := lex.New()
	for _, c := range []struct {
		text, keys string
		commands   []string
	}{
		{"ab", "ab", nil}, {"", "", nil}, {"c\x1d", "c", nil}, {"", "", nil}, {"\x1d", "\x1d", nil}, {"\x1d:li", "", nil}, {"", "", nil},
		{"st", "", nil}, {"\nd\x1d:drop\n\x1d", "d", []string{"list", "drop"}}, {"x", "", nil}, {"x", "x", nil}, {"\x1d:\n", "", []string{""}}, {"", "", nil},
	} {
		keys, commands := l.Push([]byte(c.text))
		if string(keys) != c.keys || !slices.Equal(commands, c.commands) {
			t.Fatalf("%q: %q, %q", c.text, keys, commands)
		}
	}
}

// Rule 3: nil and empty are one, also in the midst of Escape and what follows, and in the midst of a command.
func TestNoBytes(t *testing.T) {
	l := lex.New()
	var keys string
	var commands []string
	for _, p := range []string{"a", "\x1d", "\x1d", "\x1d", ":", "l", "\n", "\x1d", "x", "b"} {
		for _, none := range [][]byte{nil, {}} {
			if k, c := l.Push(none); len(k) != 0 || len(c) != 0 {
				t.Fatalf("no bytes: %q, %q", k, c)
			}
		}
		k, c := l.Push([]byte(p))
		keys += string(k)
		commands = append(commands, c...)
	}
	if keys != "a\x1db" || !slices.Equal(commands, []string{"l"}) {
		t.Errorf("%q, %q", keys, commands)
	}
}

// Rule 1: nothing panics of one that New didn't make; it is like one of New.
func TestOwn(t *testing.T) {
	var l lex.Lexer
	if k, c := l.Push(nil); len(k) != 0 || len(c) != 0 {
		t.Errorf("no bytes: %q, %q", k, c)
	}
	o := &told{l: &l}
	text := noise(3000, "a\x1d:\n", 7)
	o.push(text)
	keys, commands := model(text)
	o.is(t, "noise", keys, commands)
}

// Rule 3: what is handed in is neither changed nor kept.
func TestHandedIn(t *testing.T) {
	for _, text := range []string{"ab", "ab\x1d\x1dcd", "a\x1d:list\nb\x1d:gi"} {
		in := []byte(text + "behind")
		was := bytes.Clone(in)
		l := lex.New()
		keys, commands := l.Push(in[:len(text)])
		if !bytes.Equal(in, was) {
			t.Errorf("%q: Push has turned it to %q", was, in)
		}
		wantKeys, wantCommands := model(text)
		for i := range in {
			in[i] = '\n'
		}
		if string(keys) != wantKeys || !slices.Equal(commands, wantCommands) {
			t.Errorf("%q: behind what was handed in is turned: %q, %q", text, keys, commands)
		}
		_, commands = l.Push([]byte("ve 2\n"))
		_, wantAll := model(text + "ve 2\n")
		if !slices.Equal(commands, wantAll[len(wantCommands):]) {
			t.Errorf("%q: behind what was handed in is turned: then %q", text, commands)
		}
	}
}

// Rule 3: no later call turns what was told.
func TestTold(t *testing.T) {
	l := lex.New()
	keys, commands := l.Push([]byte("ab\x1d:list\nc\x1d:drop\n\x1d:par"))
	spare := keys[:cap(keys)]
	moreKeys, moreCommands := l.Push([]byte("tly\nxyz\x1d:gone\n\x1d:" + strings.Repeat("z", 80) + "\n"))
	if string(keys) != "abc" || !slices.Equal(commands, []string{"list", "drop"}) {
		t.Errorf("turned to %q, %q", keys, commands)
	}
	for i := range spare {
		spare[i] = '!'
	}
	for i := range commands {
		commands[i] = "!"
	}
	if string(moreKeys) != "xyz" || !slices.Equal(moreCommands, []string{"partly", "gone", strings.Repeat("z", 80)}) {
		t.Errorf("then %q, %q", moreKeys, moreCommands)
	}
}

// Rule 4: lexers know nothing of each other.
func TestTwo(t *testing.T) {
	one, two := &told{l: lex.New()}, &told{l: lex.New()}
	one.push("a\x1d")
	two.push(":b\n\x1d:x")
	one.push(":on")
	two.push("\x1d")
	one.push("e\nc")
	two.push("\nd\x1d\x1d")
	one.is(t, "one", "ac", []string{"one"})
	two.is(t, "two", ":b\nd\x1d", []string{"x\x1d"})
}
