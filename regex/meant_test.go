package regex_test

import (
	"fmt"
	"strings"

	"fretsaw/api"
)

// This file holds the chapter's words once more, in another way than the program has them: what a tree is, what a text means, where its first fault is, and how a tree is written.

const signs = "\\()[]{}.*+?|^$"

func such(holds func(b int) bool) api.Set {
	var a api.Set
	for b := range 256 {
		if holds(b) {
			a.S[b/64] |= 1 << uint(b%64)
		}
	}
	return a
}

func in(a api.Set, b int) bool { return a.S[b/64]&(1<<uint(b%64)) != 0 }

func among(bytes string) api.Set {
	return such(func(b int) bool { return strings.IndexByte(bytes, byte(b)) >= 0 })
}

func from(lo, hi int) api.Set { return such(func(b int) bool { return lo <= b && b <= hi }) }

func others(a api.Set) api.Set { return such(func(b int) bool { return !in(a, b) }) }

func joined(l ...api.Set) api.Set {
	return such(func(b int) bool {
		for _, a := range l {
			if in(a, b) {
				return true
			}
		}
		return false
	})
}

func digitSet() api.Set { return from('0', '9') }

func wordSet() api.Set {
	return joined(digitSet(), from('A', 'Z'), from('a', 'z'), among("_"))
}

func blankSet() api.Set { return joined(from(9, 13), from(32, 32)) }

func dotSet() api.Set { return others(from(10, 10)) }

func of(a api.Set) api.Re { return api.Re{Kind: api.RSet, Set: a} }

func one(b int) api.Re { return of(from(b, b)) }

func cat(kids ...api.Re) api.Re { return api.Re{Kind: api.RCat, Kids: kids} }

func alt(kids ...api.Re) api.Re { return api.Re{Kind: api.RAlt, Kids: kids} }

func rep(least, most int, kid api.Re) api.Re {
	return api.Re{Kind: api.RRep, Min: least, Max: most, Kids: []api.Re{kid}}
}

// row is the bytes of a text, one node each.
func row(s string) []api.Re {
	var out []api.Re
	for i := range len(s) {
		out = append(out, one(int(s[i])))
	}
	return out
}

// same tells whether two trees are the same; a nil list counts as an empty one.
func same(a, b api.Re) bool {
	if a.Kind != b.Kind || a.Set != b.Set || a.Min != b.Min || a.Max != b.Max || len(a.Kids) != len(b.Kids) {
		return false
	}
	for i := range a.Kids {
		if !same(a.Kids[i], b.Kids[i]) {
			return false
		}
	}
	return true
}

// show writes a tree for a test's message, just as its fields are; of a large one it tells the size alone.
func show(t api.Re) string {
	if n := nodes(t); n > 100 {
		return fmt.Sprintf("<%d: %d nodes>", t.Kind, n)
	}
	var kids []string
	for _, kid := range t.Kids {
		kids = append(kids, show(kid))
	}
	return fmt.Sprintf("<%d %x %d %d [%s]>", t.Kind, t.Set.S, t.Min, t.Max, strings.Join(kids, " "))
}

func nodes(t api.Re) int {
	n := 1
	for _, kid := range t.Kids {
		n += nodes(kid)
	}
	return n
}

func levels(t api.Re) int {
	n := 0
	for _, kid := range t.Kids {
		n = max(n, levels(kid))
	}
	return n + 1
}

// meantTree tells whether a tree is an expression's: the table, row by row.
func meantTree(t api.Re) bool {
	var zero api.Set
	ok := false
	switch {
	case t.Kind == api.RSet:
		ok = t.Min == 0 && t.Max == 0 && len(t.Kids) == 0
	case t.Kind == api.RCat:
		ok = t.Set == zero && t.Min == 0 && t.Max == 0 && (len(t.Kids) == 0 || len(t.Kids) >= 2)
	case t.Kind == api.RAlt:
		ok = t.Set == zero && t.Min == 0 && t.Max == 0 && len(t.Kids) >= 2
	case t.Kind == api.RRep:
		bounds := 0 <= t.Min && t.Min <= 20 && (t.Max == -1 || t.Min <= t.Max && t.Max <= 20)
		ok = t.Set == zero && len(t.Kids) == 1 && bounds && !(t.Min == 1 && t.Max == 1)
	}
	for _, kid := range t.Kids {
		ok = ok && meantTree(kid) && !(kid.Kind == t.Kind && t.Kind != api.RRep)
	}
	return ok
}

func meantRight(t api.Re) api.Errno {
	switch {
	case levels(t) > 30 || nodes(t) > 512:
		return api.ErrLong
	case !meantTree(t):
		return api.ErrTree
	}
	return api.OK
}

// settled makes an expression's tree of one that has a node for each alt, cat and repetition of the grammar, by one change after the other till there is nothing left to change.
func settled(t api.Re) api.Re {
	for {
		next, changed := changedOnce(t)
		if !changed {
			return t
		}
		t = next
	}
}

func changedOnce(t api.Re) (api.Re, bool) {
	list := t.Kind == api.RCat || t.Kind == api.RAlt
	for i, kid := range t.Kids {
		if list && kid.Kind == t.Kind {
			kids := append(append([]api.Re{}, t.Kids[:i]...), kid.Kids...)
			t.Kids = append(kids, t.Kids[i+1:]...)
			return t, true
		}
	}
	if list && len(t.Kids) == 1 || t.Kind == api.RRep && t.Min == 1 && t.Max == 1 {
		return t.Kids[0], true
	}
	for i, kid := range t.Kids {
		if next, changed := changedOnce(kid); changed {
			kids := append([]api.Re{}, t.Kids...)
			kids[i] = next
			t.Kids = kids
			return t, true
		}
	}
	return t, false
}

// Where a text may be in the grammar.
const (
	atStart   = iota // an atom, or no more
	atItem           // behind an item: repetitions, too
	atEscape         // behind a \
	atHex            // behind \x
	atHex2           // and a hex digit
	atClass          // behind [
	atClassNo        // behind [^
	atPart           // behind a part to which nothing more belongs
	atPoint          // behind a part of one point
	atDash           // behind a point and -
	atBrace          // behind {
	atNum            // behind one digit
	atNum2           // behind two
	atComma          // behind a num and a comma
	atEnd            // behind all that may stand between { and }
)

// place is a place in a text, with all that it hangs on.
type place struct {
	is           int
	open         int  // groups
	class, dash  bool // in a class; in a second point
	value        int  // of a point, of a num
	first        int  // the first point, the first num
	begun        int  // where the second point, or the num, begins
	second       bool // a second num
	fault        api.Errno
	faultAt, now int
}

const hexDigits = "0123456789abcdefABCDEF"

func has(list string, b int) bool { return b >= 0 && strings.IndexByte(list, byte(b)) >= 0 }

func (p *place) wrong(e api.Errno, at int) { p.fault, p.faultAt = e, at }

// pointRead is what follows once a point's last byte is read.
func (p *place) pointRead(b int) {
	switch {
	case !p.class:
		p.is = atItem
	case !p.dash:
		p.is, p.first = atPoint, b
	case b < p.first:
		p.wrong(api.ErrRegex, p.begun)
	default:
		p.is, p.dash = atPart, false
	}
}

// numRead is what follows once a num has no more digits; b comes behind it.
func (p *place) numRead(b int) {
	if p.value > 20 || p.second && p.value < p.first {
		p.wrong(api.ErrRegex, p.begun)
		return
	}
	if p.second {
		p.is, p.second = atEnd, false
	} else if p.first = p.value; b == ',' {
		p.is = atComma
		return
	} else {
		p.is = atEnd
	}
	p.take(b)
}

// inClass takes a byte where a part may begin.
func (p *place) inClass(b int) {
	switch {
	case b == '\\':
		p.is = atEscape
	case b < 0 || b == '-' || b == ']':
		p.wrong(api.ErrRegex, p.now)
	default:
		p.pointRead(b)
	}
}

func (p *place) start(b int) {
	switch {
	case b == '(' && p.open == 30:
		p.wrong(api.ErrLong, p.now)
	case b == '(':
		p.open++
		p.is = atStart
	case b == ')' && p.open > 0:
		p.open--
		p.is = atItem
	case b == '[':
		p.is, p.class = atClass, true
	case b == '\\':
		p.is = atEscape
	case b == '|':
		p.is = atStart
	case b == '.':
		p.is = atItem
	case has(signs, b) || b < 0 && p.open > 0:
		p.wrong(api.ErrRegex, p.now)
	default:
		p.is = atItem
	}
}

func (p *place) escape(b int) {
	switch {
	case has("dwsDWS", b) && !p.dash:
		p.is = atItem
		if p.class {
			p.is = atPart
		}
	case b == 'x':
		p.is = atHex
	case b == 'n':
		p.pointRead(10)
	case b == 't':
		p.pointRead(9)
	case b == 'r':
		p.pointRead(13)
	case has(signs+"-/", b):
		p.pointRead(b)
	default:
		p.wrong(api.ErrRegex, p.now)
	}
}

func (p *place) hex(b int) {
	if !has(hexDigits, b) {
		p.wrong(api.ErrRegex, p.now)
		return
	}
	digit := strings.IndexByte(hexDigits, byte(b))
	if digit > 15 {
		digit -= 6
	}
	if p.is == atHex {
		p.is, p.value = atHex2, digit
		return
	}
	p.pointRead(16*p.value + digit)
}

func (p *place) number(b int) {
	isDigit := has("0123456789", b)
	switch {
	case p.is == atNum && isDigit:
		p.is, p.value = atNum2, 10*p.value+b-'0'
	case p.is == atNum || p.is == atNum2:
		p.numRead(b)
	case isDigit && p.is != atEnd:
		p.second = p.is == atComma
		p.is, p.value, p.begun = atNum, b-'0', p.now
	case b == '}' && p.is != atBrace:
		p.is = atItem
	default:
		p.wrong(api.ErrRegex, p.now)
	}
}

func (p *place) take(b int) {
	switch {
	case p.is == atItem && has("*+?", b):
	case p.is == atItem && b == '{':
		p.is = atBrace
	case p.is == atItem || p.is == atStart:
		p.start(b)
	case p.is == atEscape:
		p.escape(b)
	case p.is == atHex || p.is == atHex2:
		p.hex(b)
	case p.is == atClass && b == '^':
		p.is = atClassNo
	case p.is == atPoint && b == '-':
		p.is, p.dash, p.begun = atDash, true, p.now+1
	case (p.is == atPart || p.is == atPoint) && b == ']':
		p.is, p.class = atItem, false
	case p.is >= atClass && p.is <= atDash:
		p.inClass(b)
	default:
		p.number(b)
	}
}

// meantFault is the first error of a text and its place, byte by byte from the left; of the tree it asks nothing.
func meantFault(s string) (api.Errno, int) {
	if len(s) > 512 {
		return api.ErrLong, 0
	}
	var p place
	for p.now = range len(s) {
		if p.take(int(s[p.now])); p.fault != api.OK {
			return p.fault, p.faultAt
		}
	}
	p.now = len(s)
	p.take(-1)
	return p.fault, p.faultAt
}

// meantByte is a byte alone; extra stand behind a \ beside the signs.
func meantByte(b int, extra string) string {
	switch {
	case b == 10:
		return "\\n"
	case b == 9:
		return "\\t"
	case b == 13:
		return "\\r"
	case has(signs+extra, b):
		return "\\" + string(rune(b))
	case b >= 33 && b <= 126:
		return string(rune(b))
	}
	return fmt.Sprintf("\\x%02x", b)
}

// meantParts are parts of a class: each byte that is the first, second .. of a run is looked at alone.
func meantParts(a api.Set) string {
	out := ""
	for b := 0; b < 256; b++ {
		if !in(a, b) {
			continue
		}
		last := b
		for last < 255 && in(a, last+1) {
			last++
		}
		if last-b >= 3 {
			out += meantByte(b, "-/") + "-" + meantByte(last, "-/")
			b = last
			continue
		}
		out += meantByte(b, "-/")
	}
	return out
}

func meantSet(a api.Set) string {
	n, last := 0, 0
	for b := range 256 {
		if in(a, b) {
			n, last = n+1, b
		}
	}
	switch {
	case n == 1:
		return meantByte(last, "")
	case n == 255 && !in(a, 10):
		return "."
	case n == 0:
		return "[^\\x00-\\xff]"
	case n == 256:
		return "[\\x00-\\xff]"
	case n > 128:
		return "[^" + meantParts(others(a)) + "]"
	}
	return "[" + meantParts(a) + "]"
}

func meantTimes(least, most int) string {
	for text, bounds := range map[string][2]int{"*": {0, -1}, "+": {1, -1}, "?": {0, 1}} {
		if bounds == [2]int{least, most} {
			return text
		}
	}
	if most == -1 {
		return fmt.Sprintf("{%d,}", least)
	}
	if most == least {
		return fmt.Sprintf("{%d}", least)
	}
	return fmt.Sprintf("{%d,%d}", least, most)
}

// meantText is what is printed of an expression's tree, however long.
func meantText(t api.Re) string {
	var kids []string
	for _, kid := range t.Kids {
		s := meantText(kid)
		if t.Kind == api.RCat && kid.Kind == api.RAlt || t.Kind == api.RRep && kid.Kind != api.RSet {
			s = "(" + s + ")"
		}
		kids = append(kids, s)
	}
	switch t.Kind {
	case api.RSet:
		return meantSet(t.Set)
	case api.RAlt:
		return strings.Join(kids, "|")
	case api.RCat:
		return strings.Join(kids, "")
	}
	return kids[0] + meantTimes(t.Min, t.Max)
}

// spread is a number that looks like chance, the same one each time.
func spread(n uint64) uint64 {
	n += 0x9E3779B97F4A7C15
	n = (n ^ n>>30) * 0xBF58476D1CE4E5B9
	n = (n ^ n>>27) * 0x94D049BB133111EB
	return n ^ n>>31
}

// dice are numbers that look like chance, the same ones each time.
type dice struct{ n, at uint64 }

func (d *dice) below(n int) int {
	d.at++
	return int(spread(d.n<<24|d.at) % uint64(n))
}

func (d *dice) set() api.Set {
	switch d.below(8) {
	case 0:
		return dotSet()
	case 1:
		return api.Set{}
	case 2:
		return others(api.Set{})
	case 3:
		lo := d.below(256)
		return from(lo, lo+d.below(8))
	case 4:
		return others(from(d.below(256), d.below(256)))
	case 5:
		return such(func(int) bool { return d.below(16) == 0 })
	}
	return joined(from(d.below(256), d.below(256)), among("-/^"))
}

// tree is an expression's tree, as long as it is not too large.
func (d *dice) tree(room int) api.Re {
	kind := 1 + d.below(4)
	if room <= 1 {
		kind = api.RSet
	}
	switch kind {
	case api.RCat, api.RAlt:
		var kids []api.Re
		for range []int{0, 2, 2, 3, 4}[d.below(5)] {
			kids = append(kids, d.tree(room-1))
		}
		if len(kids) == 0 {
			return cat()
		}
		return settled(api.Re{Kind: kind, Kids: kids})
	case api.RRep:
		least := d.below(21)
		most := []int{-1, least, 20, least + d.below(21-least)}[d.below(4)]
		return settled(rep(least, most, d.tree(room-1)))
	}
	if d.below(2) == 0 {
		return one(d.below(256))
	}
	return of(d.set())
}

// written is a text by the grammar, and its tree with a node for each alt, cat and repetition.
type written struct {
	s string
	t api.Re
}

func (d *dice) alt(room int) written {
	w := written{t: alt()}
	for i := range 1 + d.below(3)*d.below(2) {
		next := d.cat(room)
		if i > 0 {
			w.s += "|"
		}
		w.s += next.s
		w.t.Kids = append(w.t.Kids, next.t)
	}
	return w
}

func (d *dice) cat(room int) written {
	w := written{t: cat()}
	for range d.below(4) {
		next := d.item(room)
		w.s += next.s
		w.t.Kids = append(w.t.Kids, next.t)
	}
	return w
}

func (d *dice) item(room int) written {
	w := d.atom(room)
	for range d.below(3) * d.below(2) {
		least, most := 0, -1
		switch d.below(6) {
		case 0:
			w.s += "*"
		case 1:
			least = 1
			w.s += "+"
		case 2:
			most = 1
			w.s += "?"
		case 3:
			least = d.below(21)
			most = least
			w.s += "{" + d.num(least) + "}"
		case 4:
			least = d.below(21)
			w.s += "{" + d.num(least) + ",}"
		case 5:
			least = d.below(21)
			most = least + d.below(min(3, 21-least))
			w.s += "{" + d.num(least) + "," + d.num(most) + "}"
		}
		w.t = rep(least, most, w.t)
	}
	return w
}

func (d *dice) num(n int) string {
	if d.below(2) == 0 {
		return fmt.Sprintf("%02d", n)
	}
	return fmt.Sprint(n)
}

func (d *dice) atom(room int) written {
	switch n := d.below(8); {
	case n < 3 && room > 0:
		w := d.alt(room - 1)
		w.s = "(" + w.s + ")"
		return w
	case n == 3:
		return written{".", of(dotSet())}
	case n == 4:
		return d.class()
	case n == 5:
		s, a := d.kind()
		return written{s, of(a)}
	}
	s, b := d.point(signs)
	return written{s, one(b)}
}

func (d *dice) kind() (string, api.Set) {
	switch d.below(6) {
	case 0:
		return "\\d", digitSet()
	case 1:
		return "\\w", wordSet()
	case 2:
		return "\\s", blankSet()
	case 3:
		return "\\D", others(digitSet())
	case 4:
		return "\\W", others(wordSet())
	}
	return "\\S", others(blankSet())
}

// point is a byte, written in one of its ways; none of those in not is written as it is.
func (d *dice) point(not string) (string, int) {
	switch d.below(6) {
	case 0:
		return "\\n", 10
	case 1:
		return []string{"\\t", "\\r"}[d.at%2], []int{9, 13}[d.at%2]
	case 2:
		b := (signs + "-/")[d.below(16)]
		return "\\" + string(rune(b)), int(b)
	case 3:
		b := d.below(256)
		return fmt.Sprintf([]string{"\\x%02x", "\\x%02X"}[d.at%2], b), b
	}
	b := d.below(256)
	for has(not, b) {
		b = d.below(256)
	}
	return string([]byte{byte(b)}), b
}

func (d *dice) class() written {
	s, a := "[", api.Set{}
	no := d.below(3) == 0
	if no {
		s += "^"
	}
	for range 1 + d.below(3) {
		if d.below(4) == 0 {
			text, more := d.kind()
			s, a = s+text, joined(a, more)
			continue
		}
		not := "\\]-"
		if s == "[" {
			not += "^"
		}
		text, lo := d.point(not)
		hi, last := lo, ""
		if d.below(2) == 0 {
			for last, hi = d.point("\\]-"); hi < lo; last, hi = d.point("\\]-") {
				text, lo = d.point(not)
			}
			text += "-" + last
		}
		s, a = s+text, joined(a, from(lo, hi))
	}
	if no {
		a = others(a)
	}
	return written{s + "]", of(a)}
}
