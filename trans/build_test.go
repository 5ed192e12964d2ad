package trans_test

import (
	"slices"
	"strings"
	"testing"

	"fretsaw/api"
	"fretsaw/rule"
	"fretsaw/trans"
)

// built is the machine of rules that must have one.
func built(t *testing.T, l []api.Rule) api.Machine {
	t.Helper()
	m, e := trans.Build(l)
	if e != api.OK || !meantRight(m) || !trans.Right(m) {
		t.Fatalf("Build(%.300q) = %s, %d", l, show(m), e)
	}
	return m
}

func checkBuildFails(t *testing.T, l []api.Rule, want api.Errno) {
	t.Helper()
	if m, e := trans.Build(l); e != want || !empty(m) {
		t.Errorf("Build(%.300q) = %s, %d; want %d alone", l, show(m), e, want)
	}
}

// checkBuild asks of rules that may be that they are built, and put what rule.Apply rewrites; or ErrStates, if they have more than 100 bytes.
func checkBuild(t *testing.T, l []api.Rule, texts ...string) (states, parts int) {
	t.Helper()
	m, e := trans.Build(l)
	if e == api.ErrStates && empty(m) && froms(l) > 100 {
		return 0, 0
	}
	if e != api.OK || !meantRight(m) || !trans.Right(m) {
		t.Errorf("Build(%.300q) = %s, %d", l, show(m), e)
		return 0, 0
	}
	each, end := trans.Grow(m)
	for _, s := range texts {
		want, _ := rule.Apply(l, s)
		if want != meantRewrite(l, s) {
			t.Errorf("Apply(%.300q, %.80q) = %.80q", l, s, want)
		}
		if got := meantAll(m, s); got != want {
			t.Errorf("Build(%.300q) puts %.80q of %.80q; want %.80q", l, got, s, want)
		}
		if len(s) <= 4096 && len(want) <= room {
			checkRun(t, m, s, want)
		}
		if len(want) > each*len(s)+end {
			t.Errorf("Build(%.300q) puts %d bytes of %.80q; want %d times %d and %d", l, len(want), s, each, len(s), end)
		}
	}
	return len(m.Next), len(m.Texts)
}

// P12.2: rule.Right's errors.
func TestBuildWrong(t *testing.T) {
	from, to := strings.Repeat("a", 17), strings.Repeat("b", 33)
	for _, l := range [][]api.Rule{
		rules("", ""), rules("", "x"), rules("a", "x", "", "y"), rules(from, ""), rules("a", to), rules(from, to),
		rules("a", "x", "a", "x"), rules("a", "x", "b", "y", "a", "z"), rules("\x00", "", "\x00", ""), rules("ab", "x", "a", "y", "b", to),
		make([]api.Rule, 1), make([]api.Rule, 64),
	} {
		checkBuildFails(t, l, api.ErrRule)
		if e := rule.Right(l); e != api.ErrRule {
			t.Errorf("Right(%.300q) = %d", l, e)
		}
	}
	for _, l := range [][]api.Rule{make([]api.Rule, 65), make([]api.Rule, 5000), slices.Repeat(rules("a", "b"), 65), singles(65), singles(256)} {
		checkBuildFails(t, l, api.ErrLong)
	}
	checkBuild(t, singles(64), everything())
	checkBuild(t, rules(from[1:], to[1:]), from, from[2:], "")
}

// singles is as many rules as are asked for, each From of one byte.
func singles(many int) (l []api.Rule) {
	for b := range many {
		l = append(l, api.Rule{From: string([]byte{byte(b)}), To: string([]byte{byte(255 - b)})})
	}
	return l
}

// P12.2: no rules.
func TestBuildNone(t *testing.T) {
	all := everything()
	for _, l := range [][]api.Rule{nil, {}} {
		checkBuild(t, l, "", "a", all, all+all)
		m := built(t, l)
		if to, is := trans.Bytes(m); !is || string(to[:]) != all {
			t.Error("Bytes of no rules:", to, is)
		}
		if each, end := trans.Grow(m); each != 1 || end != 0 {
			t.Error("Grow of no rules:", each, end)
		}
		checkRun(t, m, strings.Repeat("a", 4096), strings.Repeat("a", 4096))
	}
}

// P12.2: each byte, bytes 0 and 255 among them, in From, in To and beside them.
func TestBuildBytes(t *testing.T) {
	all := everything()
	for b := range 256 {
		one, next := string([]byte{byte(b)}), string([]byte{byte(b + 1)})
		checkBuild(t, rules(one, ""), all, one+one)
		checkBuild(t, rules(one, next), all, next+one)
		checkBuild(t, rules(one, next+one, next, one+next), all, one+next+one)
		checkBuild(t, rules(one+one, next, next+one, ""), all, one+one+one, next+one+one+next+next+one, one)
		checkBuild(t, rules(one+"\x00\xff", one), all, one+"\x00\xff", one+"\x00", one, one+one+"\x00\xff\xff", "\x00\x00\xff")
	}
	checkBuild(t, rules("\xff\xfe", "\x80", "\xff", "\x00", "\x00", "\xff\xff"), "\xff\xff\xfe\xfe", "\xff", "\x00\x00\xff", all)
	checkBuild(t, rules("\u00e9", "e", "\u20ac", "EUR"), "caf\u00e9 5 \u20ac", "\xc3", "\xe2\x82", "\xe2\x82\xc3\xa9", "\u00e9\u00e9\u20ac")
}

// P12.2: one From that begins another one: the longest counts, as far as the text shows it.
func TestBuildBegins(t *testing.T) {
	checkBuild(t, rules("ab", "x", "abc", "y", "c", ""), short("abcd", 5)...)
	checkBuild(t, rules("a", "1", "abc", "2", "abcdef", "3"), "abcdeabcdefab", "abcdeabcde", "a", "ab", "abc", "abcd", "abcde", "abcdef", "aabcabcdefg")
	checkBuild(t, rules("aa", "b", "b", "c"), short("ab", 7)...)
	checkBuild(t, rules("a", "", "aa", "aaa"), short("ab", 7)...)
	var l []api.Rule
	for n := 1; n <= 16; n++ {
		l = append(l, api.Rule{From: strings.Repeat("a", n), To: string(rune('A' + n))})
	}
	for n := range 40 {
		s := strings.Repeat("a", n)
		checkBuild(t, l, s, s+"b", s+"b"+s, "b"+s)
		checkBuild(t, l[:min(n+1, 16)], s, s+"b", s+"b"+s, "b"+s)
		checkBuild(t, l[min(n, 15):], s, s+"b", s+"b"+s, "b"+s)
		checkBuild(t, []api.Rule{l[0], l[4], l[15]}, s, s+"b", s+"b"+s, "b"+s)
	}
}

// P12.2: what waits is cut off by a byte that does not go on, and begins again within itself.
func TestBuildAgain(t *testing.T) {
	checkBuild(t, rules("aab", "x"), short("ab", 9)...)
	checkBuild(t, rules("abab", "x", "ba", "y"), short("ab", 9)...)
	checkBuild(t, rules("aabaac", "x", "ab", "", "aac", "y"), append(short("abc", 7), "aabaabaac", "aabaaabaac")...)
	checkBuild(t, rules("abcd", "x", "bce", "y", "cf", "z", "c", "-"), "abce", "abcf", "abcd", "abcabcd", "abcabce", "ababcf", "abcc", "abc", "ab")
	checkBuild(t, rules("aaaa", "x", "aa", "yy"), short("ab", 9)...)
	checkBuild(t, rules("abcabcabcabcabcx", "1", "bcabcy", "2", "cab", "3"), "abcabcabcabcabcx", "abcabcabcabcabcy", "abcabcabcabcabc", "abcabcabcabcabcabcx", "bcabcabcy")
}

// P12.2: a From that waits is cut off by the text's end: what waits is rewritten by shorter ones, or stays.
func TestBuildCutOff(t *testing.T) {
	from := "abcdefghijklmnop"
	for n := range 17 {
		for _, l := range [][]api.Rule{rules(from, "x"), rules(from, ""), rules(from, "x", from[:3], "yy", from[:1], "z"), rules(from, "x", "c", "", "ef", "long", "n", strings.Repeat("n", 32))} {
			checkBuild(t, l, from[:n], from+from[:n], from[:n]+from, from[:n]+"-"+from[:n], from[16-n:])
		}
	}
	checkBuild(t, rules("aa", "x"), "a", "aaa", "ba")
	checkBuild(t, rules("a\x00", "x"), "a", "aa\x00a")
	m := built(t, rules("abcd", "", "b", "123", "c", "4567"))
	checkRun(t, m, "abc", "a1234567")
	checkRun(t, m, "abcd", "")
	if each, end := trans.Grow(m); each != 12 || end != 8 {
		t.Error("Grow:", each, end)
	}
}

// P12.2: every list of two rules with short Froms and Tos, at every short text.
func TestBuildEachSmall(t *testing.T) {
	froms, tos, texts := short("ab", 3)[1:], []string{"", "b", "ab"}, short("ab", 6)
	for i, first := range froms {
		for _, second := range froms[:i] {
			for n := range 9 {
				checkBuild(t, rules(first, tos[n%3], second, tos[n/3]), texts...)
			}
		}
	}
}

// P12.2: many rules and texts; the order of rules does not matter.
func TestBuildMany(t *testing.T) {
	for i := range 1500 {
		d := &dice{n: uint64(i) + 1<<40}
		bytes := []string{"ab", "abc", "a\x00\xff", "abc\xc3\xa9\xe2\x82\xac"}[d.below(4)]
		l := d.rules(bytes, 9, 1+d.below(6), 1+d.below(6))
		var texts []string
		for range 8 {
			texts = append(texts, d.text(bytes, 20), d.about(l, bytes, 8))
		}
		checkBuild(t, l, texts...)
		slices.Reverse(l)
		checkBuild(t, l, texts...)
	}
	for i := range 60 {
		d := &dice{n: uint64(i) + 1<<41}
		bytes := []string{"ab", "abcd", everything()}[d.below(3)]
		l := d.rules(bytes, 64, 16, 32)
		checkBuild(t, l, d.text(bytes, 400), d.about(l, bytes, 60), d.about(l, bytes, 60), d.about(l, bytes, 6))
	}
}

// hundred is rules whose Froms have just 100 bytes: as many of one byte as are asked for, the others long.
func (d *dice) hundred(ones int, bytes string) (l []api.Rule) {
	for b := range ones {
		l = append(l, api.Rule{From: string([]byte{byte(128 + b)}), To: d.text(everything(), 32)})
	}
	for tries := 0; froms(l) < 100 && tries < 500; tries++ {
		n := min(16, 100-froms(l))
		if tries > 100 {
			n = 1 + d.below(n)
		}
		from := ""
		for range n {
			from += string([]byte{bytes[d.below(len(bytes))]})
		}
		l = with(l, api.Rule{From: from, To: d.text(everything(), 32)})
	}
	return l
}

// P12.2: Froms of 100 bytes together are always built.
func TestBuildHundred(t *testing.T) {
	most, whole := 0, 0
	for ones := range 64 {
		for i, bytes := range []string{"a", "ab", "abcdefghijklmnopqrstuvwxyz", everything()[:128], "\x80\x81\x82\x83"} {
			d := &dice{n: uint64(ones*8+i) + 1<<42}
			l := d.hundred(ones, bytes)
			if froms(l) == 100 && len(l) <= 64 {
				whole++
			}
			l = l[:min(len(l), 64)]
			_, parts := checkBuild(t, l, d.about(l, bytes, 20), d.about(l, everything(), 20))
			most = max(most, parts)
		}
	}
	if most < 2000 || whole < 100 {
		t.Error("these show too little:", most, whole)
	}
}

// spreadOut is long rules that share no beginnings, and others of one byte: at each byte of these, each state puts something else.
func spreadOut(long, ones int) (l []api.Rule) {
	for i := range long {
		one := string([]byte{byte(i)})
		l = append(l, api.Rule{From: one + strings.Repeat("-", 15), To: "x" + one})
	}
	for i := range ones {
		l = append(l, api.Rule{From: string([]byte{byte(128 + i)}), To: "y" + string([]byte{byte(i)})})
	}
	return l
}

// P12.2: beyond 100 bytes: as many states as there may be by the rules are built, and more texts than there may be are ErrStates.
func TestBuildGreat(t *testing.T) {
	l := spreadOut(64, 0)
	all := everything()
	if states, _ := checkBuild(t, l, all, l[3].From+l[4].From[:9], l[63].From[:15]+"\x00-"); states == 0 {
		t.Error("not built")
	}
	most := 0
	for ones := range 64 {
		l := spreadOut(64-ones, ones)
		_, parts := checkBuild(t, l, l[0].From[:8]+l[63].From, l[63].From[:1]+l[0].From)
		most = max(most, parts)
	}
	if most < 3000 {
		t.Error("these show too little:", most)
	}
	checkBuildFails(t, spreadOut(32, 32), api.ErrStates)
	same := make([]api.Rule, 64) // the same texts at each of these, but for the byte itself
	copy(same, spreadOut(32, 32))
	for i := 32; i < 64; i++ {
		same[i].To = " " + same[i].From
	}
	if states, _ := checkBuild(t, same, all, "\x05----\x80", "\x05--\x9f\x80-"); states == 0 {
		t.Error("not built, though few texts are needed")
	}
	wide := strings.Repeat("w", 32) // the longest text that is put at once
	l = rules(strings.Repeat("a", 15)+"b", "", "a", wide, "c", wide)
	checkBuild(t, l, strings.Repeat("a", 15)+"c", strings.Repeat("a", 40), strings.Repeat("a", 15)+"b")
	if each, end := trans.Grow(built(t, l)); each != 512 || end != 480 {
		t.Error("Grow:", each, end)
	}
}

func FuzzBuild(f *testing.F) {
	f.Add("ab", "x", "abc", "y", "c", "", "abcabd")
	f.Add("aa", "b", "b", "c", "\x00", "\xff", "aaab\x00\xff")
	f.Add("a", "x", "a", "y", "", "", "a")
	f.Fuzz(func(t *testing.T, from1, to1, from2, to2, from3, to3, s string) {
		l := rules(from1, to1, from2, to2, from3, to3)
		s = s[:min(len(s), 200)]
		for n := range 4 {
			if e := rule.Right(l[:n]); e != api.OK {
				checkBuildFails(t, l[:n], e)
			} else {
				checkBuild(t, l[:n], s, s+from1, from2+s, s+from3+s)
			}
		}
	})
}
