package isa_test

import (
	"fmt"
	"math/rand/v2"
	"regexp"
	"slices"
	"strconv"
	"strings"
	"sync"

	"fretsaw/api"
)

// This file holds the chapter's words once more, in other ways than the program has them, and makes the instructions, the bytes and the lines that are tried.

// rows is the chapter's table.
const rows = `
1 Halt | halt |
2 Load | load | A register, B number
3 Move | move | A register, B register
4 Jump | jump | C place
5 Same | same | A register, B number, C place
6 Less | less | A register, B number, C place
7 Next | next | A register, C place
8 Look | look | A register, B register, D table
9 Mark | mark | A mark
10 Back | back | A mark
11 Here | here | A mark, C place
12 Copy | copy | A register
13 Text | text | A register, B register
14 Turn | turn |
15 Sign | sign | A register
16 Join | join |
17 Emit | emit | A register
`

// The limits, as the chapter tells them.
const (
	mostCode  = 4096
	mostLines = 262144
)

// row is what the chapter tells of an Op.
type row struct {
	op    int
	word  string
	names []string // A, B, C or D
	kinds []string
}

// meantRows is read once: it is asked again and again.
var meantRows = sync.OnceValue(func() (l []row) {
	for _, line := range strings.Split(strings.TrimSpace(rows), "\n") {
		cells := strings.Split(line, "|")
		op, _ := strconv.Atoi(strings.Fields(cells[0])[0])
		r := row{op: op, word: strings.TrimSpace(cells[1])}
		for _, named := range strings.Split(cells[2], ",") {
			if two := strings.Fields(named); len(two) == 2 {
				r.names, r.kinds = append(r.names, two[0]), append(r.kinds, two[1])
			}
		}
		l = append(l, r)
	}
	return l
})

// meantMost is the greatest one of a kind of fields; the least one is 0.
func meantMost(kind string) int {
	switch kind {
	case "register":
		return 7
	case "mark":
		return 1
	case "number":
		return 1 << 30
	case "place":
		return 4095
	}
	return 15
}

// meantAhead is the sign ahead of a field, in a line.
func meantAhead(kind string) string {
	switch kind {
	case "number":
		return ""
	case "place":
		return "@"
	}
	return kind[:1]
}

// fieldOf is an instruction's field of this name.
func fieldOf(i *api.Ins, name string) *int {
	return []*int{&i.A, &i.B, &i.C, &i.D}[name[0]-'A']
}

func meantRow(op int) (row, bool) {
	l := meantRows()
	at := slices.IndexFunc(l, func(r row) bool { return r.op == op })
	if at < 0 {
		return row{}, false
	}
	return l[at], true
}

// meantRight lays what is named down to 0, once it is looked at: the rest must be the Op alone.
func meantRight(i api.Ins) bool {
	r, ok := meantRow(i.Op)
	for at, name := range r.names {
		n := fieldOf(&i, name)
		if *n < 0 || *n > meantMost(r.kinds[at]) {
			return false
		}
		*n = 0
	}
	return ok && i == api.Ins{Op: i.Op}
}

// meantNumber writes a number as wire does, by its digits of base 128.
func meantNumber(n uint64) string {
	if n < 128 {
		return string([]byte{byte(n)})
	}
	return string([]byte{byte(n%128) + 128}) + meantNumber(n/128)
}

func meantError(l []api.Ins) api.Errno {
	if len(l) > mostCode {
		return api.ErrLong
	}
	if slices.ContainsFunc(l, func(i api.Ins) bool { return !meantRight(i) }) {
		return api.ErrOp
	}
	return api.OK
}

func meantPut(l []api.Ins) (string, api.Errno) {
	if e := meantError(l); e != api.OK {
		return "", e
	}
	out := meantNumber(uint64(len(l)))
	for _, i := range l {
		r, _ := meantRow(i.Op)
		out += meantNumber(uint64(i.Op))
		for _, name := range r.names {
			out += meantNumber(uint64(*fieldOf(&i, name)))
		}
	}
	return out, api.OK
}

// meantTake takes the number ahead off a text, by the words of chapter 2.
func meantTake(s string) (uint64, string, api.Errno) {
	high := len(s)
	if at := strings.IndexFunc(s, func(r rune) bool { return r < 128 }); at >= 0 {
		high = at
	}
	if high < 10 && high == len(s) {
		return 0, "", api.ErrShort
	}
	if high >= 10 || high == 9 && s[9] > 1 || high > 0 && s[high] == 0 {
		return 0, "", api.ErrForm
	}
	var n uint64
	for at := high; at >= 0; at-- {
		n = n<<7 | uint64(s[at]&127)
	}
	return n, s[high+1:], api.OK
}

// meantGet goes by numbers: what each one is for, and how great it may be, hangs on those ahead.
func meantGet(s string) ([]api.Ins, api.Errno) {
	many, s, e := meantTake(s)
	if e != api.OK {
		return nil, e
	}
	if many > mostCode {
		return nil, api.ErrLong
	}
	var l []api.Ins
	for uint64(len(l)) < many {
		var op, n uint64
		if op, s, e = meantTake(s); e != api.OK {
			return nil, e
		}
		r, ok := meantRow(int(min(op, 99)))
		if !ok {
			return nil, api.ErrOp
		}
		i := api.Ins{Op: r.op}
		for at, name := range r.names {
			if n, s, e = meantTake(s); e != api.OK {
				return nil, e
			}
			if n > uint64(meantMost(r.kinds[at])) {
				return nil, api.ErrOp
			}
			*fieldOf(&i, name) = int(n)
		}
		l = append(l, i)
	}
	if s != "" {
		return nil, api.ErrOp
	}
	return l, api.OK
}

func meantText(l []api.Ins) (string, api.Errno) {
	if e := meantError(l); e != api.OK {
		return "", e
	}
	var out strings.Builder
	for _, i := range l {
		r, _ := meantRow(i.Op)
		fmt.Fprint(&out, r.word)
		for at, name := range r.names {
			fmt.Fprintf(&out, " %s%d", meantAhead(r.kinds[at]), *fieldOf(&i, name))
		}
		fmt.Fprintln(&out)
	}
	return out.String(), api.OK
}

// forms is an expression for the lines of each row.
var forms = sync.OnceValue(func() (l []*regexp.Regexp) {
	for _, r := range meantRows() {
		line := `\A` + r.word
		for _, kind := range r.kinds {
			line += " " + meantAhead(kind) + `(0|[1-9][0-9]*)`
		}
		l = append(l, regexp.MustCompile(line+`\n\z`))
	}
	return l
})

// meantParse holds each line, with the byte behind it, against the expressions of all rows.
func meantParse(s string) ([]api.Ins, api.Errno, int) {
	if len(s) > mostLines {
		return nil, api.ErrLong, 0
	}
	known, of := meantRows(), forms()
	var l []api.Ins
	for at, line := range strings.SplitAfter(s, "\n") {
		if line == "" {
			break // behind the last byte 10
		}
		found := false
		for k, r := range known {
			if !strings.HasPrefix(line, r.word) {
				continue
			}
			if numbers := of[k].FindStringSubmatch(line); numbers != nil {
				i := api.Ins{Op: r.op}
				for f, name := range r.names {
					n, e := strconv.ParseInt(numbers[f+1], 10, 40)
					if e != nil {
						n = -1
					}
					*fieldOf(&i, name) = int(n)
				}
				found = meantRight(i)
				l = append(l, i)
			}
		}
		if !found || at == mostCode {
			return nil, api.ErrAsm, at + 1
		}
	}
	return l, api.OK, 0
}

func dice(n uint64) *rand.Rand { return rand.New(rand.NewPCG(n, 21)) }

// one is one of these.
func one[E any](d *rand.Rand, l ...E) E { return l[d.IntN(len(l))] }

// drawnIns is an instruction that may be; often one of its fields is at an end.
func drawnIns(d *rand.Rand) api.Ins {
	r := one(d, meantRows()...)
	i := api.Ins{Op: r.op}
	for at, name := range r.names {
		most := meantMost(r.kinds[at])
		*fieldOf(&i, name) = one(d, 0, most, d.IntN(most+1), d.IntN(min(most, 300)+1))
	}
	return i
}

func drawnCode(d *rand.Rand, many int) (l []api.Ins) {
	for range many {
		l = append(l, drawnIns(d))
	}
	return l
}

// several is so many instructions of all kinds, one behind the other.
func several(many int) (l []api.Ins) {
	for at := range many {
		r := meantRows()[at%17]
		i := api.Ins{Op: r.op}
		for f, name := range r.names {
			*fieldOf(&i, name) = at % (meantMost(r.kinds[f]) + 1)
		}
		l = append(l, i)
	}
	return l
}

// show is a text as far as it can be looked at.
func show(s string) string {
	if len(s) > 200 {
		return fmt.Sprintf("%q .. (%d bytes)", s[:200], len(s))
	}
	return fmt.Sprintf("%q", s)
}

func showCode(l []api.Ins) string {
	if len(l) > 6 {
		return fmt.Sprintf("%+v .. (%d instructions)", l[:6], len(l))
	}
	return fmt.Sprintf("%+v", l)
}
