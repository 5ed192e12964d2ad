package regex_test

import (
	"fmt"
	"strings"
	"sync"
	"testing"

	"fretsaw/api"
	"fretsaw/regex"
)

func checkTree(t *testing.T, s string, want api.Re) {
	t.Helper()
	got, e, at := regex.Parse(s)
	if e != api.OK || at != 0 || !same(got, want) {
		t.Errorf("Parse(%q) = %s, %d, %d; want %s", s, show(got), e, at, show(want))
	}
}

// checkFault asks for an error and its place, and for the zero tree beside it.
func checkFault(t *testing.T, s string, want api.Errno, place int) {
	t.Helper()
	got, e, at := regex.Parse(s)
	if e != want || at != place || !same(got, api.Re{}) {
		t.Errorf("Parse(%q) = %s, %d, %d; want %d, %d", s, show(got), e, at, want, place)
	}
}

func checkPrint(t *testing.T, tree api.Re, want string) {
	t.Helper()
	if got, e := regex.Print(tree); e != api.OK || got != want {
		t.Errorf("Print(%s) = %q, %d; want %q", show(tree), got, e, want)
	}
}

// checkText asks of any text for all that P6.1 and P6.4 say of it without its tree.
func checkText(t *testing.T, s string) {
	t.Helper()
	want, place := meantFault(s)
	got, e, at := regex.Parse(s)
	if want != api.OK {
		checkFault(t, s, want, place)
		return
	}
	if e == api.ErrLong && at == 0 && same(got, api.Re{}) {
		checkTooDeep(t, s)
		return
	}
	if e != api.OK || at != 0 || !meantTree(got) || levels(got) > 30 {
		t.Errorf("Parse(%q) = %s, %d, %d; want a tree", s, show(got), e, at)
		return
	}
	checkAgain(t, got)
}

// checkTooDeep can't see the tree, but each level of it has a byte that makes it.
func checkTooDeep(t *testing.T, s string) {
	t.Helper()
	if n := strings.Count(s, "(") + strings.Count(s, "|") + strings.Count(s, "*") + strings.Count(s, "+") + strings.Count(s, "?") + strings.Count(s, "{"); n < 15 {
		t.Errorf("Parse(%q) = ErrLong, but there is too little that nests", s)
	}
}

// checkAgain asks for Right's and Print's answers of a tree, and for P6.4.
func checkAgain(t *testing.T, tree api.Re) {
	t.Helper()
	want := meantRight(tree)
	if e := regex.Right(tree); e != want {
		t.Errorf("Right(%s) = %d; want %d", show(tree), e, want)
	}
	text := ""
	if want == api.OK {
		text = meantText(tree)
		if len(text) > 512 {
			want, text = api.ErrLong, ""
		}
	}
	s, e := regex.Print(tree)
	if s != text || e != want {
		t.Errorf("Print(%s) = %q, %d; want %q, %d", show(tree), s, e, text, want)
	}
	if e == api.OK {
		checkTree(t, s, tree)
	}
}

// The chapter's own examples.
func TestExamples(t *testing.T) {
	checkTree(t, "a(b|c)*d{2,3}", cat(one('a'), rep(0, -1, alt(one('b'), one('c'))), rep(2, 3, one('d'))))
	for s, want := range map[string]string{"[a-c_]+": "[_abc]+", "\\d\\x41": "[0-9]A", "(a)(bc)": "abc", "a{1}": "a", "": ""} {
		tree, e, at := regex.Parse(s)
		if e != api.OK || at != 0 {
			t.Errorf("Parse(%q) = %d, %d", s, e, at)
		}
		checkPrint(t, tree, want)
	}
	for s, place := range map[string]int{"a)": 1, "(a": 2, "[b-a]": 3, "a{21}": 2, "*": 0} {
		checkFault(t, s, api.ErrRegex, place)
	}
}

// P6.1: each form of the grammar.
func TestForms(t *testing.T) {
	a, b, c := one('a'), one('b'), one('c')
	for s, want := range map[string]api.Re{
		"":            cat(),
		"a":           a,
		"ab":          cat(a, b),
		"a|b":         alt(a, b),
		"a|b|c":       alt(a, b, c),
		"ab|c":        alt(cat(a, b), c),
		"a|bc":        alt(a, cat(b, c)),
		"|":           alt(cat(), cat()),
		"||":          alt(cat(), cat(), cat()),
		"a|":          alt(a, cat()),
		"|a":          alt(cat(), a),
		"a(b|c)":      cat(a, alt(b, c)),
		"(a|b)c":      cat(alt(a, b), c),
		"(a|b)(b|c)":  cat(alt(a, b), alt(b, c)),
		"a*":          rep(0, -1, a),
		"a+":          rep(1, -1, a),
		"a?":          rep(0, 1, a),
		"a{3}":        rep(3, 3, a),
		"a{3,}":       rep(3, -1, a),
		"a{3,5}":      rep(3, 5, a),
		"ab*":         cat(a, rep(0, -1, b)),
		"a*b":         cat(rep(0, -1, a), b),
		"(ab)*":       rep(0, -1, cat(a, b)),
		"(a|b)*":      rep(0, -1, alt(a, b)),
		"a|b*":        alt(a, rep(0, -1, b)),
		"()*":         rep(0, -1, cat()),
		"a**":         rep(0, -1, rep(0, -1, a)),
		"(a*)*":       rep(0, -1, rep(0, -1, a)),
		"a*+?{2}":     rep(2, 2, rep(0, 1, rep(1, -1, rep(0, -1, a)))),
		"a{2}{3,}":    rep(3, -1, rep(2, 2, a)),
		".":           of(dotSet()),
		"..":          cat(of(dotSet()), of(dotSet())),
		".*":          rep(0, -1, of(dotSet())),
		"[ab]":        of(among("ab")),
		"[ab]*c":      cat(rep(0, -1, of(among("ab"))), c),
		"[^ab]":       of(others(among("ab"))),
		"\\d+":        rep(1, -1, of(digitSet())),
		"\\**":        rep(0, -1, one('*')),
		"\\x41\\x42":  cat(one('A'), one('B')),
		"\\x4142":     cat(one('A'), one('4'), one('2')),
		"-/,:-":       cat(row("-/,:-")...),
		"n t r x d":   cat(row("n t r x d")...),
		"a{2}3":       cat(rep(2, 2, a), one('3')),
		"a,b":         cat(a, one(','), b),
		"\x00\xff\n":  cat(row("\x00\xff\n")...),
		"\u00e9":      cat(one(0xC3), one(0xA9)),
		"\u00e9*":     cat(one(0xC3), rep(0, -1, one(0xA9))),
		"(((a)))":     a,
		"((a)|((b)))": alt(a, b),
	} {
		checkTree(t, s, want)
	}
}

// P6.1: what makes no node; flattening comes first, then one Kid that is left alone is itself.
func TestNoNode(t *testing.T) {
	a, b, c, d := one('a'), one('b'), one('c'), one('d')
	for s, want := range map[string]api.Re{
		"()":             cat(),
		"(())":           cat(),
		"()()":           cat(),
		"()a":            a,
		"a()":            a,
		"()a()":          a,
		"(()())a":        a,
		"()ab()":         cat(a, b),
		"()|a":           alt(cat(), a),
		"(|)":            alt(cat(), cat()),
		"(|)|":           alt(cat(), cat(), cat()),
		"(a)":            a,
		"(a)(b)":         cat(a, b),
		"a(bc)":          cat(a, b, c),
		"(ab)c":          cat(a, b, c),
		"(ab)(cd)":       cat(a, b, c, d),
		"a(b(cd))":       cat(a, b, c, d),
		"((ab)c)d":       cat(a, b, c, d),
		"(a|b)|c":        alt(a, b, c),
		"a|(b|c)":        alt(a, b, c),
		"(a|b)|(c|d)":    alt(a, b, c, d),
		"a|(b|(c|d))":    alt(a, b, c, d),
		"((a|b))|()c":    alt(a, b, c),
		"()(a|b)|c":      alt(a, b, c),
		"(a|b)":          alt(a, b),
		"(a|b)()":        alt(a, b),
		"a|(b|c)d":       alt(a, cat(alt(b, c), d)),
		"a{1}":           a,
		"a{1,1}":         a,
		"a{01}":          a,
		"a{01,01}":       a,
		"a{1}*":          rep(0, -1, a),
		"a*{1}":          rep(0, -1, a),
		"a{1}{1}":        a,
		"(ab){1}":        cat(a, b),
		"(ab){1}c":       cat(a, b, c),
		"c(ab){1,1}":     cat(c, a, b),
		"(a|b){1}|c":     alt(a, b, c),
		"(a|b){1}c":      cat(alt(a, b), c),
		"(){1}a":         a,
		"(){2}a":         cat(rep(2, 2, cat()), a),
		"(ab){2}c":       cat(rep(2, 2, cat(a, b)), c),
		"((ab)*)c":       cat(rep(0, -1, cat(a, b)), c),
		"(((a){1}))":     a,
		"(a(b|(c)|d))":   cat(a, alt(b, c, d)),
		"(a)*":           rep(0, -1, a),
		"(a{1,}){1,1}":   rep(1, -1, a),
		"((a|b)*)|(c|d)": alt(rep(0, -1, alt(a, b)), c, d),
	} {
		checkTree(t, s, want)
	}
}

// P6.1: each byte as it is, and behind a `\`, alone and in a class.
func TestBytes(t *testing.T) {
	kinds := map[int]api.Set{'d': digitSet(), 'w': wordSet(), 's': blankSet(),
		'D': others(digitSet()), 'W': others(wordSet()), 'S': others(blankSet())}
	means := map[int]api.Set{'n': from(10, 10), 't': from(9, 9), 'r': from(13, 13)}
	for b := range 256 {
		s := string([]byte{byte(b)})
		switch {
		case b == '.':
			checkTree(t, s, of(dotSet()))
		case b == '(' || b == '[' || b == '\\':
			checkFault(t, s, api.ErrRegex, 1)
		case b == '|':
			checkTree(t, s, alt(cat(), cat()))
		case has(signs, b):
			checkFault(t, s, api.ErrRegex, 0)
		default:
			checkTree(t, s, one(b))
		}
		want, known := kinds[b]
		if plain, found := means[b]; found {
			want, known = plain, true
		}
		if has(signs+"-/", b) {
			want, known = from(b, b), true
		}
		switch {
		case known:
			checkTree(t, "\\"+s, of(want))
			checkTree(t, "[\\"+s+"]", of(want))
			checkTree(t, "[^\\"+s+"]", of(others(want)))
			checkTree(t, "[!\\"+s+"~]", of(joined(want, among("!~"))))
		case b == 'x':
			checkFault(t, "\\x", api.ErrRegex, 2)
			checkFault(t, "[\\x]", api.ErrRegex, 3)
		default:
			checkFault(t, "\\"+s, api.ErrRegex, 1)
			checkFault(t, "[\\"+s+"]", api.ErrRegex, 2)
			checkFault(t, "[a-\\"+s+"]", api.ErrRegex, 4)
		}
		switch {
		case b == '\\':
			checkFault(t, "["+s+"]", api.ErrRegex, 3)
			checkFault(t, "[a"+s+"]", api.ErrRegex, 4)
		case b == '-':
			checkFault(t, "["+s+"]", api.ErrRegex, 1)
			checkFault(t, "[a"+s+"]", api.ErrRegex, 3)
		case b == ']':
			checkFault(t, "["+s+"]", api.ErrRegex, 1)
			checkFault(t, "[a"+s+"]", api.ErrRegex, 3)
		case b == '^':
			checkFault(t, "["+s+"]", api.ErrRegex, 2)
			checkTree(t, "[^^]", of(others(among("^"))))
			checkTree(t, "[a"+s+"]", of(among("a^")))
		default:
			checkTree(t, "["+s+"]", of(from(b, b)))
			checkTree(t, "[^"+s+"]", of(others(from(b, b))))
			checkTree(t, "[a"+s+"]", of(joined(among("a"), from(b, b))))
		}
	}
}

// P6.1: hex digits of both cases, each byte; and each byte that is none.
func TestHex(t *testing.T) {
	for b := range 256 {
		for _, form := range []string{"\\x%02x", "\\x%02X", "[\\x%02x]", "[\\x%02X-\\x%02[1]x]"} {
			checkTree(t, fmt.Sprintf(form, b), one(b))
		}
		if !has(hexDigits, b) {
			s := string([]byte{byte(b)})
			checkFault(t, "\\x"+s+"0", api.ErrRegex, 2)
			checkFault(t, "a\\x0"+s, api.ErrRegex, 4)
			checkFault(t, "[\\x"+s+"0]", api.ErrRegex, 3)
			checkFault(t, "[a-\\x7"+s+"]", api.ErrRegex, 6)
		}
	}
	checkTree(t, "\\xaF\\xFa", cat(one(0xAF), one(0xFA)))
	checkFault(t, "\\x4", api.ErrRegex, 3)
}

// P6.1: classes of parts.
func TestClasses(t *testing.T) {
	for s, want := range map[string]api.Set{
		"[a]":                among("a"),
		"[aa]":               among("a"),
		"[cab]":              among("abc"),
		"[a-a]":              among("a"),
		"[a-b]":              among("ab"),
		"[a-cx-z]":           among("abcxyz"),
		"[a-cb-d]":           among("abcd"),
		"[^a-c]":             others(among("abc")),
		"[^^]":               others(among("^")),
		"[^^-a]":             others(from('^', 'a')),
		"[a^]":               among("a^"),
		"[\\^]":              among("^"),
		"[\\^a]":             among("^a"),
		"[\\^-a]":            from('^', 'a'),
		"[\\d]":              digitSet(),
		"[\\da-f]":           joined(digitSet(), from('a', 'f')),
		"[a-f\\d]":           joined(digitSet(), from('a', 'f')),
		"[^\\d]":             others(digitSet()),
		"[\\D]":              others(digitSet()),
		"[^\\D]":             digitSet(),
		"[\\d\\D]":           others(api.Set{}),
		"[^\\s\\S]":          api.Set{},
		"[\\w\\s]":           joined(wordSet(), blankSet()),
		"[\\W]":              others(wordSet()),
		"[\\x00-\\xff]":      others(api.Set{}),
		"[^\\x00-\\xff]":     api.Set{},
		"[\x00-\xff]":        others(api.Set{}),
		"[\\t-\\r]":          from(9, 13),
		"[\\n-\\r\\n]":       from(10, 13),
		"[+-\\-]":            from('+', '-'),
		"[\\--\\/]":          from('-', '/'),
		"[\\-]":              among("-"),
		"[\\--a]":            from('-', 'a'),
		"[/]":                among("/"),
		"[\\]]":              among("]"),
		"[\\\\-\\]]":         from('\\', ']'),
		"[[-\\]]":            from('[', ']'),
		"[[]":                among("["),
		"[(){}.*+?|^$[]":     among("(){}.*+?|^$["),
		"[.-.]":              among("."),
		"[*-+]":              among("*+"),
		"[n-t]":              from('n', 't'),
		"[d\\dw]":            joined(digitSet(), among("dw")),
		"[\n]":               among("\n"),
		"[\xc3\xa9]":         among("\xc3\xa9"),
		"[a-\\x7a]":          from('a', 'z'),
		"[\\x61-z]":          from('a', 'z'),
		"[0-9a-fA-F]":        among(hexDigits),
		"[a\\-z]":            among("a-z"),
		"[ -~]":              from(32, 126),
		"[,-.]":              from(',', '.'),
		"[\\x00-\\x00\\xff]": joined(from(0, 0), from(255, 255)),
	} {
		checkTree(t, s, of(want))
		checkTree(t, "x"+s+"{2}", cat(one('x'), rep(2, 2, of(want))))
	}
	for lo := range 256 {
		for hi := range 256 {
			s := fmt.Sprintf("[\\x%02x-\\x%02x]", lo, hi)
			if lo > hi {
				checkFault(t, s, api.ErrRegex, 6)
			} else {
				checkTree(t, s, of(from(lo, hi)))
			}
		}
	}
}

// P6.1: bounds of repetitions, all of two digits and fewer.
func TestBounds(t *testing.T) {
	a := one('a')
	for n := range 100 {
		for _, form := range []string{"a{%d}", "a{%02d}"} {
			checkBounds(t, fmt.Sprintf(form, n), n, n, 2)
		}
		for _, form := range []string{"a{%d,}", "a{%02d,}"} {
			checkBounds(t, fmt.Sprintf(form, n), n, -1, 2)
		}
		for m := range 100 {
			s := fmt.Sprintf("a{%d,%d}", n, m)
			switch {
			case n > 20:
				checkFault(t, s, api.ErrRegex, 2)
			case m < n || m > 20:
				checkFault(t, s, api.ErrRegex, strings.Index(s, ",")+1)
			default:
				checkBounds(t, s, n, m, 0)
				checkBounds(t, fmt.Sprintf("a{%02d,%02d}", n, m), n, m, 0)
			}
		}
	}
	checkTree(t, "a{0}", rep(0, 0, a))
	checkTree(t, "a{00}", rep(0, 0, a))
	checkTree(t, "a{0,0}", rep(0, 0, a))
	checkTree(t, "a{20}", rep(20, 20, a))
	checkTree(t, "a{20,}", rep(20, -1, a))
	checkTree(t, "a{0,20}", rep(0, 20, a))
	checkTree(t, "a{0,}", rep(0, -1, a))
	checkTree(t, "a{1,}", rep(1, -1, a))
	checkTree(t, "a{0,1}", rep(0, 1, a))
}

func checkBounds(t *testing.T, s string, least, most, place int) {
	t.Helper()
	switch {
	case least > 20:
		checkFault(t, s, api.ErrRegex, place)
	case least == 1 && most == 1:
		checkTree(t, s, one('a'))
	default:
		checkTree(t, s, rep(least, most, one('a')))
	}
}

// P6.1: the first byte that can't stand where it stands, the end too; and those that the grammar lets by.
func TestFaults(t *testing.T) {
	for s, place := range map[string]int{
		"*": 0, "+": 0, "?": 0, "{": 0, "}": 0, "]": 0, ")": 0, "^": 0, "$": 0,
		"a}": 1, "a]": 1, "a^": 1, "a$": 1, "a)b": 1, "(a))": 3, "()*)": 3,
		"|*": 1, "a|*": 2, "(*": 1, "(*)": 1, "a|+b": 2, "(|?)": 2, "|{2}": 1,
		"(": 1, "((": 2, "(()": 3, "(a|": 3, "(a|b": 4, "a(b": 3, "([)]": 4,
		"\\": 1, "a\\": 2, "\\q": 1, "\\N": 1, "\\0": 1, "\\X41": 1, "\\ ": 1, "\\\n": 1,
		"\\x": 2, "\\xg": 2, "\\x4": 3, "\\x4g": 3, "\\x(": 2,
		"[": 1, "[]": 1, "[]a]": 1, "[^": 2, "[^]": 2, "[^]a]": 2, "[a": 2, "[^a": 3, "[-": 1, "[-a]": 1, "[^-a]": 2,
		"[a-": 3, "[a-]": 3, "[a--]": 3, "[a-b-c]": 4, "[a-b-]": 4, "[\\d-a]": 3, "[\\w-]": 3, "[a-\\d]": 4, "[a-\\w": 4, "[a-\\": 4,
		"[\\": 2, "[\\q]": 2, "[\\x4]": 4, "[a-\\x]": 5, "[a-\\x7]": 6, "[a-\\q]": 4, "[^^-": 4,
		"[b-a]": 3, "[b-a": 3, "[b-ax": 3, "[b-\\x61]": 3, "[b-\\x61": 3, "[b-\\x6]": 6, "[b-\\x6": 6, "[b-\\x": 5, "[a-\\-]": 3, "[a-\\n]": 3, "[ab-a]": 4, "[\\x62-a]": 6, "[^b-a]": 4,
		"[b-a](": 3, "x*[~-!]": 5, "[\xff-\xfe]": 3, "[\\xff-\\x00]": 6, "[\\]-[]": 4,
		"a{": 2, "a{}": 2, "a{,}": 2, "a{,3}": 2, "a{x": 2, "a{ 1}": 2, "a{-1}": 2, "a{+1}": 2,
		"a{2": 3, "a{2x": 3, "a{2 }": 3, "a{2;3}": 3, "a{12": 4, "a{123}": 4, "a{100": 4, "a{213}": 2, "a{999": 2, "a{005}": 4, "a{0055}": 4,
		"a{2,": 4, "a{2,x": 4, "a{2,,": 4, "a{2, 3}": 4, "a{2,3": 5, "a{2,3,": 5, "a{2,3 }": 5, "a{2,033}": 6, "a{2,12": 6,
		"a{21}": 2, "a{21": 2, "a{21x": 2, "a{99}": 2, "a{30,": 2, "a{21,3}": 2, "a{21,22}": 2, "a{210}": 2,
		"a{3,2}": 4, "a{3,2": 4, "a{3,2x": 4, "a{3,02}": 4, "a{3,21}": 4, "a{3,99": 4, "a{12,1": 5, "a{12,1x}": 5, "a{12,11}": 5, "a{12,1}": 5, "a{1,0}": 4, "a{1,00}": 4, "a{20,1": 5, "a{12,123}": 7, "a{12,113}": 5,
		"a{2}}": 4, "a{2}{": 5, "a{2}{2,1}": 7, "ab{21}c": 3,
		"({2})": 1, "({": 1, "(a{2)": 4, "a{(": 2, "a{2(": 3,
		"a)(": 1, "[b-a])": 3, "a{21})": 2, "*a{21}": 0, ")[b-a]": 0,
	} {
		checkFault(t, s, api.ErrRegex, place)
		if e, at := meantFault(s); e != api.ErrRegex || at != place {
			t.Errorf("the test's own machine tells %d, %d of %q", e, at, s)
		}
	}
}

// P6.1: all short texts of bytes that mean something, and what lies near longer texts that are right.
func TestFaultsEverywhere(t *testing.T) {
	const letters = "a()[]^-\\dx{},12|*"
	var grow func(s string, more int)
	grow = func(s string, more int) {
		checkText(t, s)
		if more > 0 {
			for i := range len(letters) {
				grow(s+letters[i:i+1], more-1)
			}
		}
	}
	grow("", 4)
	for _, start := range []string{"[a-", "[^", "[\\x", "[b-\\x", "a{1", "a{2,", "(a{12,", "[a\\", "((", "(a|b"} {
		grow(start, 3)
	}
	for n := range uint64(20000) {
		d := dice{n: n}
		s := []byte(d.alt(3).s)
		checkText(t, string(s[:d.below(len(s)+1)]))
		for range 3 {
			at := d.below(len(s) + 1)
			s = append(s[:at:at], append([]byte{letters[d.below(len(letters))]}, s[at:]...)...)
			checkText(t, string(s))
		}
	}
}

// P6.1: trees of texts that are written by the grammar in all of its ways.
func TestTrees(t *testing.T) {
	right := 0
	for n := range uint64(20000) {
		d := dice{n: n}
		w := d.alt(4)
		if want := settled(w.t); len(w.s) <= 512 && levels(want) <= 30 {
			checkTree(t, w.s, want)
			right++
		}
		checkText(t, w.s)
	}
	if right < 15000 {
		t.Error("only", right, "texts were short enough")
	}
}

// P6.1: a text of MaxRegex bytes, and of one more, whatever is in it.
func TestLongTexts(t *testing.T) {
	for _, s := range []string{"a", "\x00", "|", "."} {
		tree, e, at := regex.Parse(strings.Repeat(s, 512))
		if e != api.OK || at != 0 || len(tree.Kids) < 512 {
			t.Errorf("512 of %q: %d, %d, %d Kids", s, e, at, len(tree.Kids))
		}
		checkFault(t, strings.Repeat(s, 513), api.ErrLong, 0)
	}
	checkTree(t, strings.Repeat("a", 512), cat(row(strings.Repeat("a", 512))...))
	for _, s := range []string{"*", ")", "(", "[b-a]", "a{21}", "\\", "["} {
		checkFault(t, s+strings.Repeat("a", 513-len(s)), api.ErrLong, 0)
		checkFault(t, strings.Repeat("a", 513-len(s))+s, api.ErrLong, 0)
		checkText(t, strings.Repeat("a", 512-len(s))+s)
	}
	checkFault(t, strings.Repeat("a", 511)+"(", api.ErrRegex, 512)
	checkFault(t, strings.Repeat("a", 511)+"]", api.ErrRegex, 511)
	checkFault(t, strings.Repeat("a", 1<<20), api.ErrLong, 0)
	checkFault(t, strings.Repeat("(", 1<<20), api.ErrLong, 0)
}

// P6.1: a `(` where MaxDepth are open.
func TestOpen(t *testing.T) {
	open, shut := strings.Repeat("(", 30), strings.Repeat(")", 30)
	checkTree(t, open+"a"+shut, one('a'))
	checkTree(t, open+shut, cat())
	checkTree(t, open+"ab"+shut+"c", cat(row("abc")...))
	checkTree(t, open+"a)(b"+shut, cat(row("ab")...))
	checkTree(t, open+"a"+shut+open+"b"+shut, cat(row("ab")...))
	checkTree(t, open+"[(]\\("+shut, cat(row("((")...))
	checkTree(t, strings.Repeat("()", 256), cat())
	checkFault(t, open+"(", api.ErrLong, 30)
	checkFault(t, open+"(a)"+shut, api.ErrLong, 30)
	checkFault(t, open+"a|b(c)"+shut, api.ErrLong, 33)
	checkFault(t, open+"a)((b)"+shut, api.ErrLong, 33)
	checkFault(t, open+strings.Repeat("(", 400), api.ErrLong, 30)
	checkFault(t, "x"+open+"(*", api.ErrLong, 31)
	checkFault(t, open+"*(", api.ErrRegex, 30)
	checkFault(t, open+"a{(", api.ErrRegex, 32)
	checkFault(t, open+"a", api.ErrRegex, 31)
	checkFault(t, open+shut+")", api.ErrRegex, 60)
	checkFault(t, open+"[b-a](", api.ErrRegex, 33)
}

// nested is n repetitions, each in the next one, around a tree.
func nested(n int, t api.Re) api.Re {
	for range n {
		t = rep(0, -1, t)
	}
	return t
}

// P6.1: trees of MaxDepth nodes within one another, and of one more; a fault in the text comes first.
func TestDeepTexts(t *testing.T) {
	checkTree(t, "a"+strings.Repeat("*", 29), nested(29, one('a')))
	checkFault(t, "a"+strings.Repeat("*", 30), api.ErrLong, 0)
	checkFault(t, "a"+strings.Repeat("*", 511), api.ErrLong, 0)
	checkFault(t, "a"+strings.Repeat("*", 30)+")", api.ErrRegex, 31)
	checkFault(t, "a"+strings.Repeat("*", 30)+"[b-a]", api.ErrRegex, 34)
	checkFault(t, "a"+strings.Repeat("*", 30)+strings.Repeat("(", 31), api.ErrLong, 61)
	checkTree(t, "a"+strings.Repeat("{1}", 100), one('a'))
	checkTree(t, "a"+strings.Repeat("*{1}", 29), nested(29, one('a')))
	checkTree(t, "()"+strings.Repeat("+", 29), func() api.Re {
		tree := cat()
		for range 29 {
			tree = rep(1, -1, tree)
		}
		return tree
	}())
	checkFault(t, "()"+strings.Repeat("+", 30), api.ErrLong, 0)
	checkTree(t, "b|ca"+strings.Repeat("*", 27), alt(one('b'), cat(one('c'), nested(27, one('a')))))
	checkFault(t, "b|ca"+strings.Repeat("*", 28), api.ErrLong, 0)
	checkTree(t, "a"+strings.Repeat("*", 28)+"b", cat(nested(28, one('a')), one('b')))
	checkFault(t, "a"+strings.Repeat("*", 29)+"b", api.ErrLong, 0)
	checkTree(t, "a"+strings.Repeat("*", 29)+"()", nested(29, one('a')))
	for n := 26; n <= 32; n++ {
		// n groups, a cat and an alt in turns.
		s, want := "a", one('a')
		for i := range n {
			if i%2 == 0 {
				s, want = "b("+s+")", cat(one('b'), want)
			} else {
				s, want = "b|("+s+")", alt(one('b'), want)
			}
		}
		switch {
		case n < 30:
			checkTree(t, s, settled(want))
		case n == 30:
			checkFault(t, s, api.ErrLong, 0)
		default:
			e, at := meantFault(s)
			checkFault(t, s, api.ErrLong, at)
			if e != api.ErrLong || strings.Count(s[:at], "(") != 30 || s[at] != '(' {
				t.Errorf("the test's own machine tells %d, %d of %q", e, at, s)
			}
		}
	}
}

func checkRight(t *testing.T, tree api.Re, want api.Errno) {
	t.Helper()
	if meant := meantRight(tree); meant != want {
		t.Errorf("the test's own answer of %s is %d; want %d", show(tree), meant, want)
	}
	if got := regex.Right(tree); got != want {
		t.Errorf("Right(%s) = %d; want %d", show(tree), got, want)
	}
	if want == api.OK {
		return
	}
	if s, e := regex.Print(tree); s != "" || e != want {
		t.Errorf("Print(%s) = %q, %d; want %d", show(tree), s, e, want)
	}
}

// around is a tree alone, and within each kind of node, so that faults are found at each place.
func around(t api.Re) []api.Re {
	x := one('x')
	return []api.Re{t, cat(x, t), cat(t, x), alt(x, t), alt(t, x), rep(0, -1, t), rep(2, 3, cat(x, alt(x, x, t), x)), alt(x, rep(0, 1, cat(x, rep(0, 0, t))))}
}

// P6.2: each kind of node, with each field at its edges and beyond them.
func TestRight(t *testing.T) {
	a, b := one('a'), one('b')
	with := func(t api.Re, change func(t *api.Re)) api.Re {
		change(&t)
		return t
	}
	var set1 = from(0, 0)
	for _, tree := range []api.Re{a, of(api.Set{}), of(others(api.Set{})), of(dotSet()), rep(0, -1, a), rep(0, 0, a), rep(2, 2, rep(1, -1, a)),
		{Kind: api.RSet, Set: set1, Kids: []api.Re{}}} {
		for _, whole := range around(tree) {
			checkRight(t, whole, api.OK)
		}
	}
	for _, tree := range []api.Re{cat(), cat(a, b), cat(a, b, a), alt(a, b), alt(a, b, cat()), alt(cat(a, b), cat(), rep(0, 1, b)), cat(alt(a, b), alt(a, b)),
		{Kind: api.RCat, Kids: []api.Re{}}, rep(0, 1, cat()), rep(0, 1, alt(cat(), cat()))} {
		checkRight(t, tree, api.OK)
	}
	wrong := []api.Re{
		{}, {Kind: -1}, {Kind: 5}, {Kind: 1 << 62}, {Kind: 5, Kids: []api.Re{a, b}}, {Kind: 0, Set: set1},
		cat(a), cat(cat()), cat(a, cat()), cat(cat(), a), cat(a, cat(a, b)), cat(a, b, cat(a, b)),
		alt(), alt(a), alt(a, alt(a, b)), alt(alt(a, b), a), alt(a, b, alt(a, b)), alt(cat()),
		rep(-1, -1, a), rep(-1, 0, a), rep(-2, -1, a), rep(21, -1, a), rep(21, 21, a), rep(0, 21, a), rep(20, 21, a), rep(0, -2, a), rep(5, 4, a), rep(1, 0, a), rep(20, 19, a), rep(1, 1, a),
		rep(1<<62, -1, a), rep(0, 1<<62, a), rep(-1<<63, 1<<62, a), rep(0, -1<<63, a),
		{Kind: api.RRep}, {Kind: api.RRep, Max: -1}, {Kind: api.RRep, Max: -1, Kids: []api.Re{a, b}},
		{Kind: api.RSet, Set: set1, Kids: []api.Re{a}}, {Kind: api.RSet, Kids: []api.Re{a, b}},
	}
	for _, tree := range []api.Re{a, cat(), cat(a, b), alt(a, b)} {
		for _, n := range []int{-1, 1, 20, 1 << 62, -1 << 63} {
			wrong = append(wrong, with(tree, func(t *api.Re) { t.Min = n }), with(tree, func(t *api.Re) { t.Max = n }))
		}
	}
	for _, tree := range []api.Re{cat(), cat(a, b), alt(a, b), rep(0, -1, a)} {
		for i := range 4 {
			wrong = append(wrong, with(tree, func(t *api.Re) { t.Set.S[i] = 1 << 63 }))
		}
	}
	for _, tree := range wrong {
		for _, whole := range around(tree) {
			checkRight(t, whole, api.ErrTree)
		}
	}
}

// P6.2: bounds of repetitions, all near the edges.
func TestRightBounds(t *testing.T) {
	for least := -3; least <= 24; least++ {
		for most := -3; most <= 24; most++ {
			tree := rep(least, most, one('a'))
			checkRight(t, tree, meantRight(tree))
			checkRight(t, cat(one('b'), tree), meantRight(tree))
			if meantRight(tree) == api.OK {
				checkPrint(t, tree, "a"+meantTimes(least, most))
				checkAgain(t, tree)
			}
		}
	}
}

// P6.2: too deep and too large trees, right in all else or not.
func TestRightLarge(t *testing.T) {
	a := one('a')
	checkRight(t, nested(29, a), api.OK)
	checkRight(t, nested(30, a), api.ErrLong)
	checkRight(t, cat(a, nested(28, a)), api.OK)
	checkRight(t, cat(a, nested(29, a)), api.ErrLong)
	checkRight(t, cat(a, nested(29, a), a), api.ErrLong)
	checkRight(t, nested(29, cat()), api.OK)
	checkRight(t, cat(row(strings.Repeat("a", 511))...), api.OK)
	checkRight(t, cat(row(strings.Repeat("a", 512))...), api.ErrLong)
	checkRight(t, alt(row(strings.Repeat("a", 511))...), api.OK)
	checkRight(t, alt(row(strings.Repeat("a", 512))...), api.ErrLong)
	half := cat(row(strings.Repeat("a", 254))...)
	checkRight(t, alt(half, half, a), api.OK) // 1 + 2 * 255 + 1
	checkRight(t, alt(half, half, a, a), api.ErrLong)
	less := cat(row(strings.Repeat("a", 253))...)
	checkRight(t, cat(alt(less, half), a), api.OK) // the last node is a Kid of the root
	checkRight(t, cat(alt(less, half), a, a), api.ErrLong)
	// ErrLong comes first, wherever the other fault is.
	checkRight(t, nested(30, api.Re{}), api.ErrLong)
	checkRight(t, nested(29, api.Re{}), api.ErrTree)
	checkRight(t, api.Re{Kind: 9, Kids: []api.Re{nested(29, a)}}, api.ErrLong)
	checkRight(t, api.Re{Kind: 9, Kids: []api.Re{nested(28, a)}}, api.ErrTree)
	checkRight(t, api.Re{Kind: api.RSet, Kids: []api.Re{nested(29, a)}}, api.ErrLong)
	checkRight(t, api.Re{Kids: row(strings.Repeat("a", 512))}, api.ErrLong)
	checkRight(t, api.Re{Kids: row(strings.Repeat("a", 511))}, api.ErrTree)
	checkRight(t, alt(cat(a), cat(row(strings.Repeat("a", 512))...)), api.ErrLong)
	checkRight(t, api.Re{Kids: make([]api.Re, 100000)}, api.ErrLong)
	chain := a
	for range 60000 {
		chain = rep(0, -1, chain)
	}
	if regex.Right(chain) != api.ErrLong {
		t.Error("Right of a long chain")
	}
}

// P1: lists that share memory make trees that are far larger than what they are kept in, or even without an end.
func TestSharedTrees(t *testing.T) {
	ring := make([]api.Re, 1)
	ring[0] = api.Re{Kind: api.RRep, Max: -1, Kids: ring}
	wide := make([]api.Re, 1000)
	for i := range wide {
		wide[i] = api.Re{Kind: api.RCat + i%2, Kids: wide}
	}
	twice := one('a')
	for range 29 {
		twice = cat(twice, twice)
	}
	for _, tree := range []api.Re{ring[0], wide[0], twice, alt(one('a'), ring[0])} {
		if e := regex.Right(tree); e != api.ErrLong {
			t.Error("Right =", e)
		}
		if s, e := regex.Print(tree); s != "" || e != api.ErrLong {
			t.Error("Print =", s, e)
		}
	}
}

// P6.3: sets.
func TestPrintSets(t *testing.T) {
	for b := range 256 {
		checkPrint(t, one(b), meantByte(b, ""))
		checkAgain(t, one(b))
		checkAgain(t, of(others(from(b, b))))
		checkAgain(t, of(joined(from(b, b), among("~"))))
		checkAgain(t, of(others(joined(from(b, b), among("~")))))
		for n := range 140 {
			checkAgain(t, of(from(b, min(b+n, 255))))
		}
	}
	for want, a := range map[string]api.Set{
		"a":                      among("a"),
		"!":                      among("!"),
		"~":                      among("~"),
		"\\x20":                  among(" "),
		"\\x7f":                  from(127, 127),
		"\\x00":                  from(0, 0),
		"\\xff":                  from(255, 255),
		"\\x0b":                  from(11, 11),
		"\\n":                    from(10, 10),
		"\\t":                    from(9, 9),
		"\\r":                    from(13, 13),
		"-":                      among("-"),
		"/":                      among("/"),
		"\\\\":                   among("\\"),
		"\\^":                    among("^"),
		"\\$":                    among("$"),
		"\\]":                    among("]"),
		".":                      dotSet(),
		"[\\x00-\\xff]":          others(api.Set{}),
		"[^\\x00-\\xff]":         api.Set{},
		"[^a]":                   others(among("a")),
		"[^\\r]":                 others(from(13, 13)),
		"[^\\-]":                 others(among("-")),
		"[^\\n\\r]":              others(among("\n\r")),
		"[ab]":                   among("ab"),
		"[abc]":                  among("abc"),
		"[a-d]":                  among("abcd"),
		"[a-e]":                  among("abcde"),
		"[abce]":                 among("abce"),
		"[abcefg]":               among("abcefg"),
		"[a-dfgh]":               among("abcdfgh"),
		"[a-df-i]":               among("abcdfghi"),
		"[acegi]":                among("acegi"),
		"[\\-a]":                 among("-a"),
		"[\\/a]":                 among("/a"),
		"[,\\-\\.]":              among(",-."),
		"[\\--0]":                from('-', '0'),
		"[\\*-\\-]":              from('*', '-'),
		"[,-\\/]":                from(',', '/'),
		"[\\/-2]":                from('/', '2'),
		"[\\^_]":                 among("^_"),
		"[\\^-a]":                from('^', 'a'),
		"[\\[\\\\\\]]":           among("[\\]"),
		"[\\[-\\^]":              from('[', '^'),
		"[\\t\\n]":               among("\t\n"),
		"[\\t-\\r]":              from(9, 13),
		"[\\t-\\r\\x20]":         blankSet(),
		"[^\\t-\\r\\x20]":        others(blankSet()),
		"[0-9]":                  digitSet(),
		"[^0-9]":                 others(digitSet()),
		"[0-9A-Z_a-z]":           wordSet(),
		"[^0-9A-Z_a-z]":          others(wordSet()),
		"[\\x00-\\x7f]":          from(0, 127),   // 128 bytes
		"[^\\x81-\\xff]":         from(0, 128),   // 129
		"[\\x80-\\xff]":          from(128, 255), // 128
		"[^\\x00-~]":             from(127, 255), // 129
		"[^\\xfc-\\xff]":         from(0, 251),
		"[^\\xfd\\xfe\\xff]":     from(0, 252),
		"[^\\x00-\\x03]":         from(4, 255),
		"[^\\x00\\x01\\x02]":     from(3, 255),
		"[\\xfc-\\xff]":          from(252, 255),
		"[\\x00\\xff]":           joined(from(0, 0), from(255, 255)),
		"[\\x00-\\x03]":          from(0, 3),
		"[\\x00\\x01\\x02\\xff]": joined(from(0, 2), from(255, 255)),
	} {
		checkPrint(t, of(a), want)
		checkTree(t, want, of(a))
	}
	for n := range uint64(300) {
		d := dice{n: n}
		checkAgain(t, of(d.set()))
		checkAgain(t, of(such(func(int) bool { return d.below(4) > 0 })))
		checkAgain(t, of(such(func(b int) bool { return spread(n<<8|uint64(b/3))%2 > 0 })))
	}
	even := such(func(b int) bool { return b%2 == 0 })
	for _, b := range []int{1, 255} {
		checkAgain(t, of(even))
		checkAgain(t, of(joined(even, from(b, b))))
	}
}

// P6.3: nodes, and which of their Kids stand between parentheses.
func TestPrint(t *testing.T) {
	a, b, c := one('a'), one('b'), one('c')
	star := rep(0, -1, a)
	for _, x := range []struct {
		t    api.Re
		want string
	}{
		{cat(), ""},
		{cat(a, b), "ab"},
		{cat(a, alt(b, c)), "a(b|c)"},
		{cat(alt(a, b), alt(b, c)), "(a|b)(b|c)"},
		{cat(star, b), "a*b"},
		{cat(a, rep(1, -1, cat(b, c))), "a(bc)+"},
		{cat(alt(cat(), a), b), "(|a)b"},
		{cat(a, of(among("bc"))), "a[bc]"},
		{alt(a, b), "a|b"},
		{alt(a, b, c), "a|b|c"},
		{alt(cat(a, b), c), "ab|c"},
		{alt(a, cat(b, c)), "a|bc"},
		{alt(cat(), cat()), "|"},
		{alt(cat(), cat(), cat()), "||"},
		{alt(a, cat(), b), "a||b"},
		{alt(star, cat(a, b)), "a*|ab"},
		{alt(cat(alt(a, b), c), a), "(a|b)c|a"},
		{star, "a*"},
		{rep(1, -1, a), "a+"},
		{rep(0, 1, a), "a?"},
		{rep(0, 0, a), "a{0}"},
		{rep(2, 2, a), "a{2}"},
		{rep(20, 20, a), "a{20}"},
		{rep(2, -1, a), "a{2,}"},
		{rep(20, -1, a), "a{20,}"},
		{rep(0, 2, a), "a{0,2}"},
		{rep(0, 20, a), "a{0,20}"},
		{rep(1, 2, a), "a{1,2}"},
		{rep(19, 20, a), "a{19,20}"},
		{rep(0, -1, cat()), "()*"},
		{rep(0, 1, cat(a, b)), "(ab)?"},
		{rep(2, 3, alt(a, b)), "(a|b){2,3}"},
		{rep(0, -1, star), "(a*)*"},
		{rep(1, -1, rep(2, 2, rep(0, 1, a))), "((a?){2})+"},
		{rep(0, -1, of(dotSet())), ".*"},
		{rep(0, -1, of(among("ab"))), "[ab]*"},
		{rep(0, -1, one('*')), "\\**"},
		{rep(0, -1, alt(cat(), a)), "(|a)*"},
		{rep(3, 3, alt(cat(a, alt(b, c)), star)), "(a(b|c)|a*){3}"},
		{cat(a, one('{'), one('2'), one('}')), "a\\{2\\}"},
		{cat(one(' '), one('\n')), "\\x20\\n"},
		{cat(one('-'), one('/')), "-/"},
	} {
		checkPrint(t, x.t, x.want)
		checkTree(t, x.want, x.t)
		checkAgain(t, x.t)
	}
}

// P6.3: texts of MaxRegex bytes, and of one more.
func TestPrintLong(t *testing.T) {
	wide := func(n int) []api.Re { return row(strings.Repeat("\x00", n)) }
	full := cat(wide(128)...)
	if s, e := regex.Print(full); e != api.OK || s != strings.Repeat("\\x00", 128) {
		t.Error("a text of 512 bytes:", s, e)
	}
	checkAgain(t, full)
	for _, tree := range []api.Re{
		cat(append(wide(128), one('a'))...),
		cat(append([]api.Re{one('a')}, wide(128)...)...),
		cat(wide(129)...),
		rep(0, -1, cat(wide(128)...)),
		alt(row(strings.Repeat("a", 257))...), // 513 bytes
		cat(of(even()), of(even())),
	} {
		if s, e := regex.Print(tree); s != "" || e != api.ErrLong || regex.Right(tree) != api.OK {
			t.Error("a text too long:", len(s), e, regex.Right(tree))
		}
		checkAgain(t, tree)
	}
	checkAgain(t, alt(append(row(strings.Repeat("a", 255)), cat(one('b'), one('b')))...)) // 512 bytes
	checkAgain(t, rep(0, -1, cat(append(wide(127), one('a'))...)))                        // 512 bytes
	// Right's error comes first: it is the same number, but of a tree that is too large nothing is written.
	tree, e, _ := regex.Parse(strings.Repeat("a", 512))
	if s, f := regex.Print(tree); e != api.OK || s != "" || f != api.ErrLong {
		t.Error("513 nodes:", s, e, f)
	}
	checkAgain(t, cat(row(strings.Repeat("a", 511))...))
	large := make([]api.Re, 511)
	for i := range large {
		large[i] = of(even())
	}
	checkAgain(t, cat(large...))
	large[510] = api.Re{}
	checkRight(t, cat(large...), api.ErrTree)
}

func even() api.Set { return such(func(b int) bool { return b%2 == 0 }) }

// P6.4: what is printed is parsed as the same tree.
func TestPrintedTrees(t *testing.T) {
	printed := 0
	for n := range uint64(20000) {
		d := dice{n: n}
		tree := d.tree(1 + d.below(6))
		if !meantTree(tree) {
			t.Fatal("no expression's tree:", show(tree))
		}
		checkAgain(t, tree)
		if _, e := regex.Print(tree); e == api.OK {
			printed++
		}
	}
	if printed < 10000 {
		t.Error("only", printed, "trees were printed")
	}
	// As deep as may be, each kind of node in each other.
	for n := range uint64(200) {
		d := dice{n: n}
		tree := one('a')
		for levels(tree) < 30 {
			switch d.below(3) {
			case 0:
				tree = settled(cat(one('b'), tree))
			case 1:
				tree = settled(alt(tree, one('b')))
			default:
				tree = rep(0, d.below(3)-1, tree)
			}
		}
		if levels(tree) == 30 {
			checkAgain(t, settled(tree))
		}
	}
}

// lists are the addresses of all elements that the lists of a tree have room for.
func lists(t api.Re, seen map[*api.Re]int) {
	for i := range t.Kids[:cap(t.Kids)] {
		seen[&t.Kids[:cap(t.Kids)][i]]++
	}
	for _, kid := range t.Kids {
		lists(kid, seen)
	}
}

// R4: no two lists of a tree, and of two trees, share memory; and what is handed in is not changed.
func TestMemory(t *testing.T) {
	for n := range uint64(2000) {
		d := dice{n: n}
		s := d.alt(4).s
		first, e, _ := regex.Parse(s)
		if e != api.OK {
			continue
		}
		second, _, _ := regex.Parse(s)
		seen := map[*api.Re]int{}
		lists(first, seen)
		lists(second, seen)
		for _, times := range seen {
			if times > 1 {
				t.Fatalf("Parse(%q): two lists share memory", s)
			}
		}
		regex.Right(first)
		regex.Print(first)
		if !same(first, second) {
			t.Fatalf("the tree of %q was changed", s)
		}
	}
}

// R1: a call's answer hangs on its arguments alone, whatever was called ahead of it and beside it.
func TestNothingIsKept(t *testing.T) {
	texts := []string{"", "a(b|c)*d{2,3}", "[^a-c\\d]+|x?", "(a", "[b-a]", "a{21}", strings.Repeat("(", 31), strings.Repeat("a", 513), "a" + strings.Repeat("*", 30)}
	var all sync.WaitGroup
	for range 8 {
		all.Go(func() {
			for range 200 {
				for _, s := range texts {
					tree, e, at := regex.Parse(s)
					if want, place := meantFault(s); want != api.OK && (e != want || at != place) {
						t.Errorf("Parse(%q) = %d, %d", s, e, at)
					}
					if text, f := regex.Print(tree); e == api.OK && (f != api.OK || text != meantText(tree)) {
						t.Errorf("Print of %q = %q, %d", s, text, f)
					}
				}
			}
		})
	}
	all.Wait()
}

func FuzzParse(f *testing.F) {
	for _, s := range []string{"", "a(b|c)*d{2,3}", "[^a-c\\d]+|x?", "(a", "[b-\\x61]", "a{21}", "\\.\\-\\/", "a{1,1}{02,20}", "()|(|)"} {
		f.Add(s)
	}
	f.Fuzz(func(t *testing.T, s string) { checkText(t, s) })
}
