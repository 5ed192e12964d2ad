package regex

import (
	"math"
	"strconv"
	"strings"

	"fretsaw/api"
	"fretsaw/set"
)

// fault is the error with which reading is given up, and its place.
type fault struct {
	e  api.Errno
	at int
}

func (f fault) Error() string {
	return "regex: error " + strconv.Itoa(int(f.e)) + " at " + strconv.Itoa(f.at)
}

// read reads all of a text, from the left, so that the first fault is the one that it is given up with. A panic that is no fault would be this program's own mistake, which must not pass for an answer.
func read(s string) (t api.Re, f fault) {
	defer func() {
		told := recover()
		if given, ok := told.(fault); ok {
			f = given
		} else if told != nil {
			panic(told)
		}
	}()
	return whole(s), fault{}
}

func whole(s string) api.Re {
	if len(s) > api.MaxRegex {
		panic(fault{api.ErrLong, 0})
	}
	r := reader{s: s}
	t := r.alt()
	if r.at < len(s) { // a `)` that closes nothing
		r.wrong(r.at)
	}
	nodes := math.MaxInt
	if !fits(t, api.MaxDepth, &nodes) {
		panic(fault{api.ErrLong, 0})
	}
	return t
}

// reader goes through s: it is at a place, with so many groups open. Each of its methods is named after what it reads of the grammar.
type reader struct {
	s        string
	at, open int
}

// wrong gives up: what stands at a place can't stand there.
func (r *reader) wrong(at int) { panic(fault{api.ErrRegex, at}) }

// sees tells whether the next byte is one of these; the end is none.
func (r *reader) sees(these string) bool {
	return r.at < len(r.s) && strings.IndexByte(these, r.s[r.at]) >= 0
}

// step takes the next byte, whatever it is; the end can't be taken.
func (r *reader) step() byte {
	if r.at == len(r.s) {
		r.wrong(r.at)
	}
	r.at++
	return r.s[r.at-1]
}

func (r *reader) oneOf(these string) byte {
	if !r.sees(these) {
		r.wrong(r.at)
	}
	return r.step()
}

func (r *reader) noneOf(these string) byte {
	if r.sees(these) {
		r.wrong(r.at)
	}
	return r.step()
}

// skips takes the next byte, if it is this sign.
func (r *reader) skips(sign string) bool {
	if !r.sees(sign) {
		return false
	}
	r.at++
	return true
}

func (r *reader) alt() api.Re {
	kids := laid(nil, r.cat(), api.RAlt)
	for r.skips("|") {
		kids = laid(kids, r.cat(), api.RAlt)
	}
	return grown(api.RAlt, kids)
}

func (r *reader) cat() api.Re {
	var kids []api.Re
	for r.at < len(r.s) && !r.sees("|)") {
		kids = laid(kids, r.item(), api.RCat)
	}
	return grown(api.RCat, kids)
}

// laid lays a node behind others, for a parent of a kind; one of the same kind gives its Kids in its place.
func laid(kids []api.Re, t api.Re, parent int) []api.Re {
	if t.Kind == parent {
		return append(kids, t.Kids...)
	}
	return append(kids, t)
}

// grown is the node of a kind with these Kids; one that is left alone is itself.
func grown(kind int, kids []api.Re) api.Re {
	if len(kids) == 1 {
		return kids[0]
	}
	return api.Re{Kind: kind, Kids: kids}
}

func (r *reader) item() api.Re {
	t := r.atom()
	for r.sees("*+?{") {
		least, most := r.times()
		if !once(least, most) {
			t = api.Re{Kind: api.RRep, Min: least, Max: most, Kids: []api.Re{t}}
		}
	}
	return t
}

func (r *reader) times() (least, most int) {
	switch r.step() {
	case '*':
		return 0, endless
	case '+':
		return 1, endless
	case '?':
		return 0, 1
	}
	return r.bounds()
}

func (r *reader) bounds() (least, most int) {
	least = r.num(0)
	most = least
	if r.skips(",") {
		most = endless
		if r.sees(digits) {
			most = r.num(least)
		}
	}
	r.oneOf("}")
	return least, most
}

// num reads a number from least to MaxRepeat. One that is not stands at a place ahead of all that could be wrong behind it, so it is told first.
func (r *reader) num(least int) int {
	place := r.at
	n := int(r.oneOf(digits) - '0')
	if r.sees(digits) {
		n = 10*n + int(r.step()-'0')
	}
	if n < least || n > api.MaxRepeat {
		r.wrong(place)
	}
	return n
}

func (r *reader) atom() api.Re {
	if r.sees("(") {
		return r.group()
	}
	return api.Re{Kind: api.RSet, Set: r.single()}
}

// group counts what is open, so that what calls itself here is bounded.
func (r *reader) group() api.Re {
	if r.open == api.MaxDepth {
		panic(fault{api.ErrLong, r.at})
	}
	r.open++
	r.oneOf("(")
	t := r.alt()
	r.oneOf(")")
	r.open--
	return t
}

// single reads an atom that is one byte of a set.
func (r *reader) single() api.Set {
	if r.skips("[") {
		return r.class()
	}
	if r.skips(".") {
		return dot()
	}
	if a, found := r.kind(); found {
		return a
	}
	return lone(r.point(signs))
}

func lone(b byte) api.Set { return set.Range(b, b) }

// class reads a class behind its `[`. A `^` there is never a point.
func (r *reader) class() api.Set {
	others := r.skips("^")
	a := r.part()
	for !r.skips("]") {
		a = set.Join(a, r.part())
	}
	if others {
		return set.Not(a)
	}
	return a
}

func (r *reader) part() api.Set {
	if a, found := r.kind(); found {
		return a
	}
	first := r.point(outside)
	if !r.skips("-") {
		return lone(first)
	}
	place := r.at
	last := r.point(outside)
	if last < first {
		r.wrong(place)
	}
	return set.Range(first, last)
}

// kind reads a `\` and a kind, or nothing at all: behind another `\` comes one byte, whose place is found then.
func (r *reader) kind() (api.Set, bool) {
	if !r.sees(`\`) || r.at+1 == len(r.s) {
		return api.Set{}, false
	}
	a, found := kindOf(r.s[r.at+1])
	if found {
		r.at += 2
	}
	return a, found
}

func kindOf(b byte) (api.Set, bool) {
	digit := set.Of(digits)
	letter := set.Join(set.Range('A', 'Z'), set.Range('a', 'z'))
	word := set.Join(set.Join(digit, letter), lone('_'))
	blank := set.Of("\t\n\v\f\r ")
	switch b {
	case 'd':
		return digit, true
	case 'w':
		return word, true
	case 's':
		return blank, true
	case 'D':
		return set.Not(digit), true
	case 'W':
		return set.Not(word), true
	case 'S':
		return set.Not(blank), true
	}
	return api.Set{}, false
}

// point reads one byte, as it is, if it is none of these, or behind a `\`.
func (r *reader) point(none string) byte {
	if r.skips(`\`) {
		return r.one()
	}
	return r.noneOf(none)
}

func (r *reader) one() byte {
	switch b := r.oneOf(behind + "ntrx"); b {
	case 'n':
		return '\n'
	case 't':
		return '\t'
	case 'r':
		return '\r'
	case 'x':
		high := r.hex()
		return high<<4 | r.hex()
	default:
		return b
	}
}

func (r *reader) hex() byte {
	b := r.oneOf(digits + "abcdefABCDEF")
	switch {
	case b >= 'a':
		return b - 'a' + 10
	case b >= 'A':
		return b - 'A' + 10
	}
	return b - '0'
}
