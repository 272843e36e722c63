package tell

import (
	"strconv"
	"strings"

	"kibitzer/msg"
)

// worded is whatever has a word in a line, as api's errors have.
type worded interface{ Word() string }

// What else has one.
type (
	kind    msg.Kind
	message msg.Msg // whose word is a line itself
	number  int64
	hex     string
	text    string
)

func (k kind) Word() string    { return Word(msg.Kind(k)) }
func (m message) Word() string { return Message(msg.Msg(m)) }
func (n number) Word() string  { return strconv.FormatInt(int64(n), 10) }
func (h hex) Word() string     { return Hex(string(h)) }
func (t text) Word() string    { return string(t) }

// line is the words of parts, a space between each two.
func line(parts ...worded) string {
	list := make([]string, 0, len(parts))
	for _, part := range parts {
		list = append(list, part.Word())
	}
	return strings.Join(list, " ")
}
