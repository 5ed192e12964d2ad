package regex

import (
	"strconv"
	"strings"

	"fretsaw/api"
	"fretsaw/set"
)

const (
	nothing    = `[^\x00-\xff]` // the empty set, which has no part of its own
	everything = `[\x00-\xff]`  // the set of all bytes, of which no others are left
	all        = 256            // bytes that there are
	half       = 128            // a class of more bytes is written by the others
	run        = 4              // so many bytes in a row are written by the first and the last
	hexDigits  = "0123456789abcdef"
)

// Print writes an expression's tree.
func Print(t api.Re) (string, api.Errno) {
	if e := Right(t); e != api.OK {
		return "", e
	}
	var w strings.Builder
	write(&w, t)
	if w.Len() > api.MaxRegex {
		return "", api.ErrLong
	}
	return w.String(), api.OK
}

func write(w *strings.Builder, t api.Re) {
	switch t.Kind {
	case api.RSet:
		w.WriteString(setText(t.Set))
	case api.RCat:
		for _, kid := range t.Kids {
			writeWithin(w, kid, kid.Kind == api.RAlt)
		}
	case api.RAlt:
		for i, kid := range t.Kids {
			if i > 0 {
				w.WriteByte('|')
			}
			write(w, kid)
		}
	case api.RRep:
		writeWithin(w, t.Kids[0], t.Kids[0].Kind != api.RSet)
		w.WriteString(timesText(t.Min, t.Max))
	}
}

// writeWithin writes a node, between parentheses if it needs them where it stands.
func writeWithin(w *strings.Builder, t api.Re, needed bool) {
	if !needed {
		write(w, t)
		return
	}
	w.WriteByte('(')
	write(w, t)
	w.WriteByte(')')
}

func timesText(least, most int) string {
	n := strconv.Itoa(least)
	switch {
	case least == 0 && most == endless:
		return "*"
	case least == 1 && most == endless:
		return "+"
	case least == 0 && most == 1:
		return "?"
	case most == endless:
		return "{" + n + ",}"
	case most == least:
		return "{" + n + "}"
	}
	return "{" + n + "," + strconv.Itoa(most) + "}"
}

func setText(a api.Set) string {
	if a == dot() {
		return "."
	}
	switch n := set.Count(a); {
	case n == 0:
		return nothing
	case n == 1:
		return byteText(set.Bytes(a)[0], signs)
	case n == all:
		return everything
	case n > half:
		return "[^" + partsText(set.Bytes(set.Not(a))) + "]"
	}
	return "[" + partsText(set.Bytes(a)) + "]"
}

// partsText writes rising bytes as parts of a class.
func partsText(l string) string {
	var w strings.Builder
	for len(l) > 0 {
		n := inRow(l)
		if n >= run {
			w.WriteString(byteText(l[0], behind) + "-" + byteText(l[n-1], behind))
		} else {
			for i := range n {
				w.WriteString(byteText(l[i], behind))
			}
		}
		l = l[n:]
	}
	return w.String()
}

// inRow is how many of the first of these rising bytes stand one behind the other.
func inRow(l string) int {
	n := 1
	for n < len(l) && l[n] == l[n-1]+1 {
		n++
	}
	return n
}

// byteText writes a byte; these stand behind a `\`.
func byteText(b byte, these string) string {
	switch {
	case strings.IndexByte(these, b) >= 0:
		return `\` + string([]byte{b})
	case b == '\n':
		return `\n`
	case b == '\t':
		return `\t`
	case b == '\r':
		return `\r`
	case b > ' ' && b <= '~':
		return string([]byte{b})
	}
	return `\x` + string([]byte{hexDigits[b>>4], hexDigits[b&15]})
}
