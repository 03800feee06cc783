package simulate

import (
	"strconv"
	"strings"

	"roundtable/api"
	"roundtable/round"
)

// part is a part of a line.
type part interface{ text() string }

type word string

func (w word) text() string { return string(w) }

type number int

func (n number) text() string { return strconv.Itoa(int(n)) }

// numbers have a blank before each of them.
type numbers []int

func (l numbers) text() string {
	s := ""
	for _, n := range l {
		s += " " + strconv.Itoa(n)
	}
	return s
}

// bytes have two hexadecimal digits each.
type bytes string

func (b bytes) text() string {
	const digits = "0123456789abcdef"
	var text strings.Builder
	for i := range len(b) {
		text.WriteByte(digits[b[i]>>4])
		text.WriteByte(digits[b[i]&15])
	}
	return text.String()
}

// lines collects lines of parts.
type lines struct{ strings.Builder }

func (l *lines) line(parts ...part) {
	for _, x := range parts {
		l.WriteString(x.text())
	}
	l.WriteString("\n")
}

// Format returns the text of a trace.
func Format(t api.Trace) (string, api.Errno) {
	if e := Check(t); e != api.OK {
		return "", e
	}
	var l lines
	l.line(word("inputs"), numbers(t.Inputs))
	l.line(word("states"), numbers(t.States[0]))
	messages := t.Messages
	for k := range t.Word {
		text, _ := round.Format(len(t.Inputs), t.Word[k:k+1])
		l.line(word("round "), number(k+1), word(": "), word(text))
		for len(messages) > 0 && messages[0].Round == k {
			x := messages[0]
			l.line(word("from "), number(x.From), word(" to "), number(x.To), word(": "), bytes(x.Bytes))
			messages = messages[1:]
		}
		l.line(word("states"), numbers(t.States[k+1]))
	}
	for p, time := range t.Times {
		if time < 0 {
			l.line(word("process "), number(p), word(" does not decide"))
		} else {
			l.line(word("process "), number(p), word(" decides "), number(t.Decisions[p]), word(" at "), number(time))
		}
	}
	if l.Len() > api.MaxText {
		return "", api.ErrLong
	}
	return l.String(), api.OK
}
