package isa

import (
	"strconv"
	"strings"

	"fretsaw/api"
)

const maxLines = 262144 // bytes of a text of lines

// Text writes instructions as lines.
func Text(l []api.Ins) (string, api.Errno) {
	if e := right(l); e != api.OK {
		return "", e
	}
	var out strings.Builder
	for _, i := range l {
		out.WriteString(forms[i.Op].word)
		numbers := fields(i)
		for f, k := range forms[i.Op].fields {
			if k != none {
				out.WriteString(" " + kinds[k].sign + strconv.Itoa(numbers[f]))
			}
		}
		out.WriteByte('\n')
	}
	return out.String(), api.OK
}

// Parse reads lines that Text wrote; or tells the error, and the number of the line.
func Parse(s string) ([]api.Ins, api.Errno, int) {
	if len(s) > maxLines {
		return nil, api.ErrLong, 0
	}
	var l []api.Ins
	from := 0
	for at, r := range s {
		if r != '\n' {
			continue
		}
		i, ok := parsed(s[from:at])
		if !ok || len(l) == api.MaxCode {
			return nil, api.ErrAsm, len(l) + 1
		}
		l = append(l, i)
		from = at + 1
	}
	if from < len(s) {
		return nil, api.ErrAsm, len(l) + 1
	}
	return l, api.OK, 0
}

// parsed is a line's instruction.
func parsed(line string) (api.Ins, bool) {
	parts := apart(line)
	op := opOf(parts[0])
	if op < api.Halt {
		return api.Ins{}, false
	}
	var numbers [4]int
	rest := parts[1:]
	for f, k := range forms[op].fields {
		if k == none {
			continue
		}
		if len(rest) == 0 {
			return api.Ins{}, false
		}
		n, ok := field(rest[0], k)
		if !ok {
			return api.Ins{}, false
		}
		numbers[f], rest = n, rest[1:]
	}
	return made(op, numbers), len(rest) == 0
}

// apart is a line's parts: what stands ahead of the first blank, between each two of them, and behind the last one.
func apart(line string) []string {
	var parts []string
	from := 0
	for at, r := range line {
		if r == ' ' {
			parts = append(parts, line[from:at])
			from = at + 1
		}
	}
	return append(parts, line[from:])
}

// opOf is the Op of a word, or 0, which is none. It doesn't look at the forms' first row: an empty line has its word.
func opOf(word string) int {
	for op := api.Halt; op <= api.Emit; op++ {
		if forms[op].word == word {
			return op
		}
	}
	return 0
}

// field is the number of a field of this kind, as it stands in a line.
func field(s string, kind int) (int, bool) {
	digits, ok := strings.CutPrefix(s, kinds[kind].sign)
	if !ok {
		return 0, false
	}
	return upToDigits(digits, kinds[kind].most)
}

// upToDigits is the number that digits write, which may be at most so great; as soon as it is greater it is given up, so that it always has room.
func upToDigits(s string, most int) (int, bool) {
	if s == "" || s[0] == '0' && len(s) > 1 {
		return 0, false
	}
	n := 0
	for _, r := range s {
		if r < '0' || r > '9' {
			return 0, false
		}
		n = 10*n + int(r-'0')
		if n > most {
			return 0, false
		}
	}
	return n, true
}
