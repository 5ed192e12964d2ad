package config

import (
	"strings"

	"fretsaw/api"
)

const (
	digits    = "0123456789"
	hexDigits = digits + "abcdefABCDEF"
)

// line is a line that is being read: the text up to its end, where it begins there, and where reading is. So places are those of the text.
type line struct {
	s         string
	begin, at int
}

// wrong gives up, since what stands at this place can't stand there.
func (l *line) wrong() { panic(fault{api.ErrSign, l.at}) }

// sees tells whether the next byte is one of these; the line's end is none.
func (l *line) sees(these string) bool {
	return l.at < len(l.s) && strings.IndexByte(these, l.s[l.at]) >= 0
}

func (l *line) oneOf(these string) byte {
	if !l.sees(these) {
		l.wrong()
	}
	l.at++
	return l.s[l.at-1]
}

// take takes these bytes, one behind the other.
func (l *line) take(these string) {
	for i := range len(these) {
		l.oneOf(these[i : i+1])
	}
}

// rest is all that is left of the line.
func (l *line) rest() string { return l.s[l.at:] }

// end is called where the line must end.
func (l *line) end() {
	if l.at < len(l.s) {
		l.wrong()
	}
}

// quoted is a text that stood between quotes, and the place of the first one.
type quoted struct {
	text string
	at   int
}

// quoted reads a blank and a quoted text.
func (l *line) quoted() quoted {
	l.take(blank)
	at := l.at
	l.take(quote)
	var text strings.Builder
	for !l.sees(quote) {
		text.WriteByte(l.letter())
	}
	l.take(quote)
	return quoted{text.String(), at}
}

// letter reads a byte of a quoted text, as it is or behind a `\`.
func (l *line) letter() byte {
	if l.sees(escape) {
		l.take(escape)
		return l.escaped()
	}
	if l.at == len(l.s) || !plain(l.s[l.at]) {
		l.wrong()
	}
	l.at++
	return l.s[l.at-1]
}

func (l *line) escaped() byte {
	switch b := l.oneOf(quote + escape + "ntrx"); b {
	case 'n':
		return '\n'
	case 't':
		return '\t'
	case 'r':
		return '\r'
	case 'x':
		high := l.hex()
		return high<<4 | l.hex()
	default:
		return b
	}
}

func (l *line) hex() byte {
	b := l.oneOf(hexDigits)
	switch {
	case b >= 'a':
		return b - 'a' + 10
	case b >= 'A':
		return b - 'A' + 10
	}
	return b - '0'
}
