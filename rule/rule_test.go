package rule_test

import (
	"slices"
	"strings"
	"sync"
	"testing"
	"unsafe"

	"fretsaw/api"
	"fretsaw/rule"
)

const room = 262144 // bytes of a text

// check asks for one text, rewritten.
func check(t *testing.T, l []api.Rule, s, want string) {
	t.Helper()
	if got, e := rule.Apply(l, s); e != api.OK || got != want {
		t.Errorf("Apply(%.300q, %.80q) = %.80q, %d; want %.80q", l, s, got, e, want)
	}
}

// checkGrow asks all about rules that may be, but for texts.
func checkGrow(t *testing.T, l []api.Rule, want int) {
	t.Helper()
	if e := rule.Right(l); e != api.OK {
		t.Errorf("Right(%.300q) = %d", l, e)
	}
	if n, e := rule.Grow(l); e != api.OK || n != want {
		t.Errorf("Grow(%.300q) = %d, %d; want %d", l, n, e, want)
	}
}

// checkFails asks all about rules that may not be: nothing stands beside the error, whatever the text is.
func checkFails(t *testing.T, l []api.Rule, want api.Errno) {
	t.Helper()
	if e := rule.Right(l); e != want {
		t.Errorf("Right(%.300q) = %d; want %d", l, e, want)
	}
	if n, e := rule.Grow(l); n != 0 || e != want {
		t.Errorf("Grow(%.300q) = %d, %d; want 0, %d", l, n, e, want)
	}
	for _, s := range []string{"", "a", "ab\x00\xff"} {
		checkApplyFails(t, l, s, want)
	}
}

func checkApplyFails(t *testing.T, l []api.Rule, s string, want api.Errno) {
	t.Helper()
	if got, e := rule.Apply(l, s); got != "" || e != want {
		t.Errorf("Apply(%.300q, %.80q of %d) = %.80q, %d; want %d alone", l, s, len(s), got, e, want)
	}
}

// checkMeant holds all three against the chapter's words, and what follows of them.
func checkMeant(t *testing.T, l []api.Rule, s string) {
	t.Helper()
	if e := meantRight(l); e != api.OK {
		checkFails(t, l, e)
		checkApplyFails(t, l, s, e)
		return
	}
	checkGrow(t, l, meantGrow(l))
	check(t, l, s, meantApply(l, s))
	checkFollows(t, l, s)
}

// checkFollows is P11.3, of one text: how long it grows, and the rules in another order.
func checkFollows(t *testing.T, l []api.Rule, s string) {
	t.Helper()
	got, _ := rule.Apply(l, s)
	if n, _ := rule.Grow(l); len(got) > n*len(s) {
		t.Errorf("Apply(%.300q, %.80q) has %d bytes: more than %d times %d", l, s, len(got), n, len(s))
	}
	back := slices.Clone(l)
	slices.Reverse(back)
	check(t, back, s, got)
	check(t, (&dice{n: uint64(len(s))}).mixed(l), s, got)
}

// P11.1 and P11.2: the chapter's examples, and DOC.md's of a rule.
func TestExamples(t *testing.T) {
	check(t, rules("ab", "x", "abc", "y", "c", ""), "abcabcc", "yy")
	check(t, rules("aa", "b", "b", "c"), "aaab", "bac")
	check(t, nil, "a", "a")
	checkFails(t, rules("a", "x", "a", "y"), api.ErrRule)
	checkFails(t, rules("", "x"), api.ErrRule)
	check(t, rules("A", "a"), "Ab", "ab")
	checkGrow(t, rules("ab", "xyz"), 2)
}

// P11.1: how many rules there may be; too many are ErrLong, also where one of them may not be.
func TestHowMany(t *testing.T) {
	if api.MaxRules != 64 {
		t.Error("MaxRules is", api.MaxRules)
	}
	for many := range 65 {
		checkGrow(t, numbered(many), 1)
	}
	check(t, numbered(64), "\x00\x00\x3f\x00\x40\x00\x01", "\xff\xc0\x40\x00\x01")
	checkFails(t, append(numbered(63), api.Rule{}), api.ErrRule)
	checkFails(t, append(numbered(63), numbered(1)...), api.ErrRule)
	for _, many := range []int{65, 66, 128, 5000} {
		l := numbered(many)
		checkFails(t, l, api.ErrLong)
		for _, at := range []int{0, 33, 64, many - 1} {
			for _, bad := range wrong() {
				checkFails(t, slices.Replace(slices.Clone(l), at, at+1, bad), api.ErrLong)
			}
		}
		checkFails(t, make([]api.Rule, many), api.ErrLong)
		checkFails(t, slices.Repeat(rules("a", "b"), many), api.ErrLong)
	}
}

// wrong is rules that may not be, whatever stands beside them.
func wrong() []api.Rule {
	return []api.Rule{
		{},
		{To: "a"},
		{To: strings.Repeat("a", 32)},
		{To: strings.Repeat("a", 33)},
		{From: strings.Repeat("a", 17)},
		{From: strings.Repeat("a", 17), To: "a"},
		{From: strings.Repeat("a", 17), To: strings.Repeat("a", 33)},
		{From: strings.Repeat("\x00", 17)},
		{From: strings.Repeat("\u20ac", 6)}, // 18 bytes, 6 characters
		{From: strings.Repeat("a", 4096), To: "a"},
		{From: "a", To: strings.Repeat("a", 33)},
		{From: strings.Repeat("a", 16), To: strings.Repeat("a", 33)},
		{From: "a", To: strings.Repeat("\xff", 33)},
		{From: "a", To: strings.Repeat("\u20ac", 11)}, // 33 bytes, 11 characters
		{From: "a", To: strings.Repeat("a", 1<<20)},
	}
}

// P11.1 and P11.2: each rule that may not be, at each place of a list.
func TestWrongRule(t *testing.T) {
	for _, bad := range wrong() {
		checkFails(t, []api.Rule{bad}, api.ErrRule)
		for _, many := range []int{1, 2, 5, 63} {
			for at := range many + 1 {
				checkFails(t, slices.Insert(numbered(many), at, bad), api.ErrRule)
			}
		}
	}
}

// P11.1: how many bytes From and To may have.
func TestSizes(t *testing.T) {
	if api.MaxFrom != 16 || api.MaxTo != 32 {
		t.Error("MaxFrom, MaxTo are", api.MaxFrom, api.MaxTo)
	}
	for _, one := range []string{"a", "\x00", "\xff"} {
		for from := range 20 {
			for to := range 40 {
				l := []api.Rule{{From: strings.Repeat(one, from), To: strings.Repeat("x", to)}}
				if from < 1 || from > 16 || to > 32 {
					checkFails(t, l, api.ErrRule)
					continue
				}
				checkGrow(t, l, meantGrow(l))
				check(t, l, strings.Repeat(one, 2*from), strings.Repeat("x", 2*to))
				check(t, l, strings.Repeat(one, 2*from-1), strings.Repeat("x", to)+strings.Repeat(one, from-1))
			}
		}
	}
}

// P11.1: no two Froms are the same, whatever their Tos are and wherever they stand; Tos may be.
func TestTwice(t *testing.T) {
	for _, many := range []int{2, 3, 10, 64} {
		for i := range many {
			for j := range i {
				l := numbered(many)
				l[i].From = l[j].From
				checkFails(t, l, api.ErrRule)
				l[i].To = l[j].To
				checkFails(t, l, api.ErrRule)
			}
		}
	}
	long := strings.Repeat("a", 15)
	checkFails(t, rules(long+"b", "x", long, "y", long+"b", ""), api.ErrRule)
	checkFails(t, rules("\x00", "", "\x00", ""), api.ErrRule)
	checkFails(t, rules("\xff", "", "\xfe", "", "\xff", "a"), api.ErrRule)
	check(t, rules(long+"a", "x", long+"b", "x", long, "x"), long+"b"+long, "xx")
	check(t, rules("a", "x", "b", "x"), "abc", "xxc")
	check(t, rules("a", "x", "A", "y"), "aA", "xy")
	check(t, rules("a", "x", "a\x00", "y", "\x00a", "z"), "aa\x00\x00a", "xyz")
	check(t, rules("\xff", "x", "\xfe", "y"), "\xfe\xff", "yx")
}

// P11.2: the greatest of 1 and of To's bytes by From's, rounded up.
func TestGrow(t *testing.T) {
	checkGrow(t, nil, 1)
	checkGrow(t, []api.Rule{}, 1)
	checkGrow(t, rules("a", ""), 1)
	checkGrow(t, rules("abc", "", "ab", "x", "abcd", "abc"), 1)
	checkGrow(t, rules("a", "x"), 1)
	checkGrow(t, rules("ab", "xy", "abc", "xyz"), 1)
	checkGrow(t, rules("a", "xy"), 2)
	checkGrow(t, rules("ab", "xyz"), 2)
	checkGrow(t, rules("abc", "wxyz"), 2)
	checkGrow(t, rules("abc", "uvwxyz"), 2)
	checkGrow(t, rules("abc", "tuvwxyz"), 3)
	checkGrow(t, rules("a", strings.Repeat("x", 32)), 32)
	checkGrow(t, rules(strings.Repeat("a", 16), strings.Repeat("x", 32)), 2)
	checkGrow(t, rules(strings.Repeat("a", 15), strings.Repeat("x", 32)), 3)
	checkGrow(t, rules(strings.Repeat("a", 16), strings.Repeat("x", 17)), 2)
	checkGrow(t, rules(strings.Repeat("a", 16), strings.Repeat("x", 16)), 1)
	l := rules("a", "xxxxx", "bb", "xxxxxxx", "c", "", "dd", "xx")
	for range l {
		checkGrow(t, l, 5)
		l = append(l[1:], l[0])
	}
	checkGrow(t, append(numbered(63), api.Rule{From: "abc", To: "0123456789"}), 4)
	checkGrow(t, append(rules("abc", "0123456789"), numbered(63)...), 4)
}

// P11.2: how long a text may be. It is looked at behind the rules.
func TestLongText(t *testing.T) {
	if room != 64*api.MaxInput {
		t.Error("64 MaxInput is", 64*api.MaxInput)
	}
	s := strings.Repeat("a", room)
	wide := strings.Repeat("x", 32)
	check(t, nil, s, s)
	check(t, rules("b", "x"), s, s)
	check(t, rules("a", ""), s, "")
	check(t, rules("a", wide), s, strings.Repeat(wide, room))
	check(t, rules("aaa", "b"), s, strings.Repeat("b", room/3)+"a")
	check(t, rules("aaa", "b"), s[1:], strings.Repeat("b", room/3))
	check(t, rules("aa", "bcd", "a", "e"), s[1:], strings.Repeat("bcd", room/2-1)+"e")
	for _, l := range [][]api.Rule{nil, rules("a", ""), rules("a", wide), rules("b", "x"), numbered(64)} {
		for _, n := range []int{room + 1, room + 2, 2 * room, 1 << 23} {
			checkApplyFails(t, l, strings.Repeat("a", n), api.ErrLong)
		}
	}
	for _, n := range []int{0, 1, room, room + 1, 2 * room} {
		for _, bad := range wrong() {
			checkApplyFails(t, []api.Rule{bad}, strings.Repeat("a", n), api.ErrRule)
		}
		checkApplyFails(t, rules("a", "x", "a", "x"), strings.Repeat("a", n), api.ErrRule)
		checkApplyFails(t, make([]api.Rule, 65), strings.Repeat("a", n), api.ErrLong)
	}
}

// P1: a long text at which every rule is asked for at every place is rewritten, too.
func TestLongInVain(t *testing.T) {
	var l []api.Rule
	for n := range 16 {
		l = append(l, rules(strings.Repeat("a", n)+"b", "x", strings.Repeat("a", n)+"c", "y", strings.Repeat("a", n)+"d", "z", strings.Repeat("a", n)+"e", "")...)
	}
	if len(l) != 64 {
		t.Fatal(len(l))
	}
	s := strings.Repeat("a", room)
	check(t, l, s, s)
	check(t, l, s[1:]+"b", s[16:]+"x")
	check(t, l, s[1:]+"e", s[16:])
	check(t, l, strings.Repeat("aaaaaaaaaaaaaaaaac", room/18), strings.Repeat("aay", room/18))
}

// P11.2: the longest From counts, wherever in the list it stands.
func TestLongestCounts(t *testing.T) {
	var l []api.Rule
	for n := 1; n <= 16; n++ {
		l = append(l, api.Rule{From: strings.Repeat("a", n), To: string(rune('A' + n))})
	}
	for range 20 {
		for n := 1; n <= 16; n++ {
			check(t, l, strings.Repeat("a", n), string(rune('A'+n)))
			check(t, l, strings.Repeat("a", n)+"b"+strings.Repeat("a", 16+n), string(rune('A'+n))+"bQ"+string(rune('A'+n)))
		}
		l = (&dice{n: uint64(l[0].To[0])}).mixed(l)
	}
	l = rules("a", "1", "abc", "2", "abcdef", "3")
	for range l {
		check(t, l, "abcdeabcdefab", "2de31b")
		l = append(l[1:], l[0])
	}
	check(t, rules("ab", "x", "bc", "y"), "abc", "xc")
	check(t, rules("bcd", "y", "ab", "x"), "abcd", "xcd")
	check(t, rules("ab", "", "bcdefgh", "y"), "abcdefgh", "cdefgh")
	check(t, rules("a", "", "aa", "aaa"), "aaaaa", "aaaaaa")
}

// P11.2: what is put is not looked at again, nor together with what follows.
func TestPutIsNotLookedAt(t *testing.T) {
	check(t, rules("a", "b", "b", "a"), "abba", "baab")
	check(t, rules("a", "aa"), "aaa", "aaaaaa")
	check(t, rules("x", "a", "ab", "y"), "xb", "ab")
	check(t, rules("x", "a", "ab", "y"), "xbab", "aby")
	check(t, rules("x", "", "ab", "y"), "axb", "ab")
	check(t, rules("x", "b", "ab", "y"), "axx", "abb")
	check(t, rules("ab", "a", "aa", "c"), "abab", "aa")
	check(t, rules("a", ""), "aaaa", "")
	check(t, rules("ab", ""), "aabb", "ab")
}

// P11.2: a From that is cut off by the text's end is none.
func TestCutOff(t *testing.T) {
	from := "abcdefghijklmnop"
	l := rules(from, "x", from[:3], "y", from[:1], "z")
	check(t, l, "", "")
	check(t, l, from, "x")
	for n := range 16 {
		want := []string{"", "z", "zb", "y"}[min(n, 3)] + from[min(n, 3):n]
		check(t, l, from[:n], want)
		check(t, l, from+from[:n], "x"+want)
		check(t, rules(from, "x"), from[:n], from[:n])
		check(t, rules(from, ""), from+from[:n], from[:n])
	}
	for n := 1; n <= 16; n++ {
		check(t, rules(from[:n], "x"), from[:n-1], from[:n-1])
		check(t, rules(from[:n], "x"), from[:n], "x")
	}
	check(t, rules("aa", "x"), "a", "a")
	check(t, rules("a\x00", "x"), "a", "a")
	check(t, rules("a\x00", "x"), "aa\x00a", "axa")
}

// P11.2: each byte counts, and characters do not.
func TestAllBytes(t *testing.T) {
	all := everything()
	check(t, nil, all, all)
	for b := range 256 {
		one := string([]byte{byte(b)})
		check(t, rules(one, ""), all, all[:b]+all[b+1:])
		check(t, rules(one, one+one), all, all[:b]+one+all[b:])
		check(t, rules("\x00\xff", one), all+"\x00\x00\xff\xff", all+"\x00"+one+"\xff")
		check(t, rules(one+one, "-"), all+one+one+one, replaced(rules(one+one, "-"), all+one+one+one))
	}
	check(t, rules("\u00e9", "e"), "caf\u00e9 \xc3 \xa9", "cafe \xc3 \xa9")
	check(t, rules("\xa9", "?"), "\u00e9", "\xc3?")
	check(t, rules("\xc3", ""), "\u00e9\xc3\xa9", "\xa9\xa9")
	check(t, rules("\xff\xfe", "\x80"), "\xff\xff\xfe\xfe", "\xff\x80\xfe")
	check(t, rules("\x00", "\x00\x00", "\x00\x00\x00", ""), "\x00\x00\x00\x00\x00", "\x00\x00\x00\x00")
	check(t, rules("\ufffd", "x"), "\xff\ufffd", "\xffx")
}

// P11.1 to P11.3: every list of two rules with short Froms and Tos, at every short text.
func TestEachSmall(t *testing.T) {
	froms, tos, texts := small(3), []string{"", "a", "ab"}, small(5)
	for i, first := range froms {
		for _, second := range froms[i:] {
			for n := range 9 {
				l := rules(first, tos[n%3], second, tos[n/3])
				if meantRight(l) != api.OK {
					checkFails(t, l, api.ErrRule)
					continue
				}
				checkGrow(t, l, meantGrow(l))
				for _, s := range texts {
					want := meantApply(l, s)
					check(t, l, s, want)
					check(t, rules(second, tos[n/3], first, tos[n%3]), s, want)
				}
			}
		}
	}
}

// P11.1 to P11.3: many rules and texts, against the chapter's words and the library's replacer.
func TestMany(t *testing.T) {
	for i := range 8000 {
		d := &dice{n: uint64(i)}
		bytes := []string{"ab", "abc", "a\x00\xff", "abc\xc3\xa9\xe2\x82\xac"}[d.below(4)]
		l := d.rules(bytes, 9, 1+d.below(5), 1+d.below(6))
		for range 3 {
			s := d.text(bytes, 30)
			checkMeant(t, l, s)
			check(t, l, s, replaced(l, s))
		}
	}
	for i := range 300 {
		d := &dice{n: uint64(i) + 1<<32}
		l := d.rules("ab", 64, 16, 32)
		s := d.text("ab", 400)
		checkMeant(t, l, s)
		check(t, l, s, replaced(l, s))
	}
	for i := range 1500 {
		d := &dice{n: uint64(i) + 1<<33}
		l := make([]api.Rule, d.below(6))
		for j := range l {
			l[j] = api.Rule{From: d.text("ab", 18), To: d.text("ab", 34)}
		}
		checkMeant(t, l, d.text("ab", 60))
	}
}

// P11.3: where no From stands in a text, it stays as it is; so it does by rules whose To is their From.
func TestStays(t *testing.T) {
	stay, same := 0, 0
	for i := range 6000 {
		d := &dice{n: uint64(i) + 1<<34}
		bytes := []string{"ab", "abc", "a\x00\xff\xc3"}[d.below(3)]
		l := d.rules(bytes, 4, 5, 4)
		s := d.text(bytes, 12)
		stands := func(r api.Rule) bool { return strings.Contains(s, r.From) }
		if !slices.ContainsFunc(l, stands) {
			check(t, l, s, s)
			stay++
		}
		for j, r := range l {
			if stands(r) {
				l[j].To = r.From
				same++
			}
		}
		check(t, l, s, s)
	}
	if stay < 1000 || same < 1000 {
		t.Error("too few were tried:", stay, same)
	}
	check(t, rules("aa", "aa"), "aaaaa", "aaaaa")
	check(t, rules("aa", "aa", "aba", "x"), "aabaa", "aabaa") // the other one's From does stand there, but not where one comes by
	check(t, rules("ab", "ab", "abc", "x"), "abab\x00ab", "abab\x00ab")
	check(t, rules("a", "a", "b", "x"), "aaba", "aaxa")
}

// share tells whether two texts lie in the same memory.
func share(a, b string) bool {
	if a == "" || b == "" {
		return false
	}
	from, to := uintptr(unsafe.Pointer(unsafe.StringData(a))), uintptr(unsafe.Pointer(unsafe.StringData(b)))
	return from < to+uintptr(len(b)) && to < from+uintptr(len(a))
}

// R4: what is answered is new memory, and what is given stays as it is.
func TestAnswersAreTheirOwn(t *testing.T) {
	for _, given := range [][]string{{"abcabc", "abc", "xyz"}, {"a", "b", "c"}, {"a", "a", "a"}, {"abc", "abc", "abc"}, {"abc", "abc", "long enough to be put as it is"}, {"abcdef", "x", "y"}} {
		s, from, to := strings.Clone(given[0]), strings.Clone(given[1]), strings.Clone(given[2])
		l := rules(from, to)
		first, _ := rule.Apply(l, s)
		second, _ := rule.Apply(l, s)
		plain, _ := rule.Apply(nil, s)
		for _, got := range []string{first, plain} {
			if share(got, s) || share(got, from) || share(got, to) || share(got, second) {
				t.Errorf("Apply(%q, %q) shares its memory", l, s)
			}
		}
		if plain != s || !slices.Equal(l, rules(given[1], given[2])) {
			t.Error("what was given was changed:", l, s)
		}
	}
	l := numbered(64)
	checkMeant(t, l[:40:64], "\x00\x00\x28\x00\x29\x00")
	if !slices.Equal(l, numbered(64)) {
		t.Error("the rules were changed")
	}
}

// R1: no call keeps anything, so that several may be made at one time.
func TestNothingIsKept(t *testing.T) {
	shared := rules("ab", "x", "abc", "y", "c", "")
	var group sync.WaitGroup
	for range 8 {
		group.Go(func() {
			for i := range 60 {
				d := &dice{n: uint64(i)}
				checkMeant(t, shared, d.text("abcd", 20))
				checkMeant(t, d.rules("abcd", 9, 4, 4), d.text("abcd", 20))
				checkFails(t, rules("a", "", "a", "b"), api.ErrRule)
				checkFails(t, make([]api.Rule, 65), api.ErrLong)
			}
			checkApplyFails(t, shared, strings.Repeat("a", room+1), api.ErrLong)
		})
	}
	group.Wait()
}

func FuzzRules(f *testing.F) {
	f.Add("ab", "x", "abc", "y", "c", "", "abcabcc")
	f.Add("a", "x", "a", "y", "\x00", "\xff", "a\x00\xff")
	f.Add("", "x", "aa", "b", "b", "c", "aaab")
	f.Fuzz(func(t *testing.T, from1, to1, from2, to2, from3, to3, s string) {
		s = s[:min(len(s), 200)]
		l := rules(from1, to1, from2, to2, from3, to3)
		for n := range 4 {
			checkMeant(t, l[:n], s)
			if meantRight(l[:n]) == api.OK {
				check(t, l[:n], s, replaced(l[:n], s))
			}
		}
	})
}
