package tok_test

import (
	"slices"
	"strings"
	"sync"
	"testing"

	"fretsaw/api"
	"fretsaw/config"
	"fretsaw/merge"
	"fretsaw/nfa"
	"fretsaw/tok"
)

// checkNormal asks for a normal text.
func checkNormal(t *testing.T, c api.Config, s, want string) {
	t.Helper()
	if got, e := tok.Normal(c, s); e != api.OK || got != want {
		t.Errorf("Normal(%s, %s) = %s, %d; want %s", show(c), show(s), show(got), e, show(want))
	}
}

// checkTok asks for the ids of a text, and for what follows of them.
func checkTok(t *testing.T, c api.Config, s string, want ...int) {
	t.Helper()
	got, e := tok.Tok(c, s)
	if e != api.OK || !slices.Equal(got, want) {
		t.Errorf("Tok(%s, %s) = %s of %d, %d; want %s of %d", show(c), show(s), show(got), len(got), e, show(want), len(want))
	}
	checkFollows(t, c, s, got)
}

// checkFollows looks at P18.3 and P18.4: nothing is lost, and there are not too many ids.
func checkFollows(t *testing.T, c api.Config, s string, ids []int) {
	t.Helper()
	normal, e := tok.Normal(c, s)
	if e != api.OK {
		t.Errorf("Normal(%s, %s): %d", show(c), show(s), e)
	}
	if len(ids) <= mostIds {
		if got, e := tok.Text(c, ids); e != api.OK || got != normal {
			t.Errorf("the ids of %s by %s write %s, %d; its normal text is %s", show(s), show(c), show(got), e, show(normal))
		}
	}
	if most := len(normal) + len(c.Before) + len(c.After); len(ids) > most {
		t.Errorf("%s has %d ids by %s; %d are the most", show(s), len(ids), show(c), most)
	}
	if len(c.Merges) == 0 {
		inner := ids[len(c.Before) : len(ids)-len(c.After)]
		if !slices.Equal(inner, idsOf(normal)) {
			t.Errorf("without merges the ids of %s are %s", show(normal), show(inner))
		}
	}
}

// checkMeant holds the answers for a text against the chapter's words.
func checkMeant(t *testing.T, c api.Config, s string) {
	t.Helper()
	checkNormal(t, c, s, meantNormal(c, s))
	checkTok(t, c, s, meantTok(c, s)...)
}

// checkFails asks for an error, and that nothing stands beside it.
func checkFails(t *testing.T, c api.Config, s string, want api.Errno) {
	t.Helper()
	if got, e := tok.Normal(c, s); e != want || got != "" {
		t.Errorf("Normal(%s, %s) = %s, %d; want %d alone", show(c), show(s), show(got), e, want)
	}
	if got, e := tok.Tok(c, s); e != want || len(got) > 0 {
		t.Errorf("Tok(%s, %s) = %s, %d; want %d alone", show(c), show(s), show(got), e, want)
	}
}

// The chapter's examples, and those of the whole that ask for ids.
func TestExamples(t *testing.T) {
	c := chapter()
	checkTok(t, c, "abcab c", 258, 257, 256, 32, 99)
	checkTok(t, c, "", 258)
	c.Passes = [][]api.Rule{rules("A", "a")}
	checkTok(t, c, "Ab", 258, 256)
	checkNormal(t, c, "Ab", "ab")

	c = parsed(`split [a-z]+/merge "a" "b"`)
	checkTok(t, c, "ab ab", 256, 32, 256)
	checkTok(t, c, "")
	checkTok(t, parsed(`pass/rule "A" -> "a"/split [a-z]+/merge "a" "b"`), "Ab", 256)
	checkTok(t, parsed(`split a*b`), "aaa", 97, 97, 97)
}

// wrong is a configuration that may not be.
type wrong struct {
	c api.Config
	e api.Errno
}

// wrongs is one for each error of config.Right, and those for which several things are to blame.
func wrongs() (l []wrong) {
	add := func(e api.Errno, harm func(c *api.Config)) {
		c := chapter()
		harm(&c)
		l = append(l, wrong{c, e})
	}
	add(api.ErrConfig, func(c *api.Config) { c.Passes = make([][]api.Rule, 5) })
	add(api.ErrLong, func(c *api.Config) { c.Passes = [][]api.Rule{nil, numberedRules(65)} })
	add(api.ErrRule, func(c *api.Config) { c.Passes = [][]api.Rule{rules("", "a")} })
	add(api.ErrRule, func(c *api.Config) { c.Passes = [][]api.Rule{nil, nil, nil, rules("a", "b", "a", "c")} })
	add(api.ErrRule, func(c *api.Config) { c.Passes = [][]api.Rule{rules(strings.Repeat("a", 17), "")} })
	add(api.ErrRule, func(c *api.Config) { c.Passes = [][]api.Rule{rules("a", strings.Repeat("a", 33))} })
	add(api.ErrConfig, func(c *api.Config) { c.Passes = [][]api.Rule{rules("a", "aaa"), rules("a", "bbbbbbbbbbb")} })
	add(api.ErrTree, func(c *api.Config) { c.Split = api.Re{} })
	add(api.ErrTree, func(c *api.Config) { c.Split = api.Re{Kind: api.RAlt} })
	add(api.ErrLong, func(c *api.Config) { c.Split = tree(strings.Repeat("|", 511)) })
	add(api.ErrLong, func(c *api.Config) {
		for range 30 {
			c.Split = api.Re{Kind: api.RRep, Max: -1, Kids: []api.Re{c.Split}}
		}
	})
	add(api.ErrConfig, func(c *api.Config) { c.Split = tree(strings.Repeat("a", 500)) })
	add(api.ErrConfig, func(c *api.Config) { c.Split = tree("((a{20}){20}){20}") })
	add(api.ErrLong, func(c *api.Config) { c.Merges = twoByTwo(1025) })
	add(api.ErrMerge, func(c *api.Config) { c.Merges = pairs('a', 'b', 'a', 'b') })
	add(api.ErrMerge, func(c *api.Config) { c.Merges = pairs('a', 256) })
	add(api.ErrMerge, func(c *api.Config) { c.Merges = doubled('a', 7) })
	add(api.ErrConfig, func(c *api.Config) { c.Names = numbered(65) })
	add(api.ErrConfig, func(c *api.Config) { c.Names = []string{"a", ""} })
	add(api.ErrConfig, func(c *api.Config) { c.Names = []string{"a", "a"} })
	add(api.ErrConfig, func(c *api.Config) { c.Names = []string{strings.Repeat("a", 33)} })
	add(api.ErrConfig, func(c *api.Config) { c.Before = []int{1} })
	add(api.ErrConfig, func(c *api.Config) { c.Before = make([]int, 33) })
	add(api.ErrConfig, func(c *api.Config) { c.After = []int{-1} })
	add(api.ErrConfig, func(c *api.Config) { c.After = make([]int, 33) })
	add(api.ErrRule, func(c *api.Config) { c.Passes, c.Split = [][]api.Rule{rules("", "")}, api.Re{} })
	add(api.ErrTree, func(c *api.Config) { c.Split, c.Merges, c.Names = api.Re{}, twoByTwo(1025), nil })
	add(api.ErrMerge, func(c *api.Config) { c.Merges, c.Names = pairs(-1, 0), nil })
	return append(l, wrong{api.Config{}, api.ErrTree})
}

// P18.1: what may not be is told, whatever the text: ahead of ErrLong.
func TestWrongConfigs(t *testing.T) {
	for _, x := range wrongs() {
		if e := config.Right(x.c); e != x.e {
			t.Errorf("config.Right(%s) = %d; want %d", show(x.c), e, x.e)
		}
		for _, s := range []string{"", "ab", strings.Repeat("a", mostInput), strings.Repeat("a", mostInput+1), strings.Repeat("a", 1<<20)} {
			checkFails(t, x.c, s, x.e)
		}
	}
}

// P18.1: how long a text may be, whatever becomes of it.
func TestLongTexts(t *testing.T) {
	if mostInput != api.MaxInput || mostIds != 64*api.MaxInput {
		t.Error("MaxInput is", api.MaxInput)
	}
	s := strings.Repeat("a", mostInput)
	gone := parsed(`pass/rule "a" -> ""/split a*/name "x"/after "x"`)
	for _, c := range []api.Config{chapter(), parsed("split ."), gone} {
		checkFails(t, c, s+"a", api.ErrLong)
		checkFails(t, c, s+"\xff", api.ErrLong)
		checkFails(t, c, s+s, api.ErrLong)
		checkFails(t, c, strings.Repeat(s, 100), api.ErrLong)
	}
	checkNormal(t, chapter(), s, s)
	checkTok(t, chapter(), s, append([]int{258}, idsOf(s)...)...)
	checkTok(t, chapter(), s[1:], append([]int{258}, idsOf(s[1:])...)...)
	checkTok(t, parsed("split ."), s, idsOf(s)...)
	checkNormal(t, gone, s, "")
	checkTok(t, gone, s, 256)
	words := strings.Repeat("abc ", mostInput/4)
	checkTok(t, chapter(), words, append([]int{258}, slices.Repeat([]int{257, ' '}, mostInput/4)...)...)
	six := api.Config{Split: tree("a*"), Merges: doubled('a', 6)}
	checkTok(t, six, s, slices.Repeat([]int{261}, mostInput/64)...)
	checkTok(t, six, s[1:], append(slices.Repeat([]int{261}, mostInput/64-1), 260, 259, 258, 257, 256, 'a')...)
}

// P18.1: the empty text has no piece, even if it is taken; what the passes leave nothing of has none, either.
func TestEmptyTexts(t *testing.T) {
	for _, x := range []string{"", "a*", ".", "()", "[^\\x00-\\xff]", "a|"} {
		c := api.Config{Split: tree(x), Merges: pairs('a', 'a'), Names: numbered(3), Before: []int{2, 0}, After: []int{1}}
		checkNormal(t, c, "", "")
		checkTok(t, c, "", 259, 257, 258)
		c.Passes = [][]api.Rule{rules("a", "", "b", ""), nil}
		checkNormal(t, c, "", "")
		checkTok(t, c, "", 259, 257, 258)
		checkNormal(t, c, "abba", "")
		checkTok(t, c, "abba", 259, 257, 258)
		c.Before, c.After = nil, nil
		checkTok(t, c, "")
		checkTok(t, c, "abba")
	}
}

// P18.1: passes are gone through in their order, each over what the one ahead of it made.
func TestPasses(t *testing.T) {
	all := [][]api.Rule{rules("a", "b"), rules("b", "cc"), rules("ccc", "d", "c", "a"), rules("ad", "!", "a", "-")}
	want := []string{"aab", "bbb", "cccccc", "dd", "dd"}
	for many := range 5 {
		c := api.Config{Split: tree("."), Passes: all[:many]}
		checkNormal(t, c, "aab", want[many])
		checkTok(t, c, "aab", idsOf(want[many])...)
		c.Passes = slices.Repeat([][]api.Rule{{}}, many)
		checkNormal(t, c, "aab", "aab")
		checkTok(t, c, "aab", idsOf("aab")...)
	}
	for _, x := range []struct {
		s    string
		want [5]string
	}{
		{"a", [5]string{"a", "b", "cc", "aa", "--"}},
		{"bb", [5]string{"bb", "bb", "cccc", "da", "d-"}},
		{"aad", [5]string{"aad", "bbd", "ccccd", "dad", "d!"}},
		{"xyz", [5]string{"xyz", "xyz", "xyz", "xyz", "xyz"}},
	} {
		for many, want := range x.want {
			c := api.Config{Split: tree("."), Passes: all[:many]}
			checkNormal(t, c, x.s, want)
			checkMeant(t, c, x.s)
		}
	}
	turned := api.Config{Split: tree("."), Passes: [][]api.Rule{rules("b", "c"), rules("a", "b")}}
	checkNormal(t, turned, "ab", "bc")
	same := api.Config{Split: tree("."), Passes: slices.Repeat([][]api.Rule{rules("a", "ab")}, 4)}
	checkNormal(t, same, "aca", "abbbbcabbbb")
	checkNormal(t, parsed(`pass/rule "ab" -> "x"/rule "abc" -> "y"/rule "c" -> ""/pass/rule "yy" -> "x"/split .`), "abcabcc", "x")
}

// P18.1: passes that make a text longer: 32 times, at most; and pieces as long as that.
func TestLonger(t *testing.T) {
	long := strings.Repeat("a", 32)
	s := strings.Repeat("a", mostInput)
	want := strings.Repeat("a", 32*mostInput)
	for _, passes := range [][][]api.Rule{
		{rules("a", long)}, {nil, rules("a", long), nil, nil}, {rules("a", "aa"), rules("a", "aaaa"), rules("a", "aa"), rules("a", "aa")}, {rules("a", "bbbb"), rules("b", "aaaaaaaa")},
	} {
		c := api.Config{Passes: passes, Split: tree("a+"), Merges: doubled('a', 6), Names: numbered(1), Before: []int{0}}
		checkNormal(t, c, s, want)
		checkTok(t, c, s, append([]int{262}, slices.Repeat([]int{261}, mostInput/2)...)...)
		c.Merges = nil
		checkTok(t, c, s, append([]int{256}, idsOf(want)...)...)
		c.Split = tree("a{20}")
		checkTok(t, c, s, append([]int{256}, idsOf(want)...)...)
		c.Merges = doubled('a', 2)
		checkTok(t, c, s, append([]int{258}, append(slices.Repeat([]int{257}, 32*mostInput/20*5), idsOf(want[:32*mostInput%20])...)...)...)
		checkFails(t, c, s+"a", api.ErrLong)
	}
	c := api.Config{Passes: [][]api.Rule{rules("a", long), rules("a", "")}, Split: tree("a+")}
	checkNormal(t, c, s, "")
	checkNormal(t, c, s[1:]+"b", "b")
	checkTok(t, c, "abab", 'b', 'b')
	c.Passes = [][]api.Rule{rules("ab", "c"), rules("cc", "d"), rules("dd", "e")}
	checkNormal(t, c, strings.Repeat("ab", 9), "eec")
}

// P1: texts at which one goes far in vain, from each place on, are told of, too.
func TestFarInVain(t *testing.T) {
	s := strings.Repeat("a", mostInput)
	all := idsOf(strings.Repeat(s, 32))
	c := api.Config{Passes: [][]api.Rule{rules("a", strings.Repeat("a", 32))}, Merges: doubled('a', 1)}
	for x, each := range map[string]int{
		"a*b": 1, "a|a*b": 1, "aa|a*b": 2, "(a{7}|a{11})*b|a": 1, "(a?){20}b|aa": 2, "((a?){20}){12}b|a": 1, "(((a*)*)*)*b|aa": 2, "a*a*a*a*a*b|a": 1,
	} {
		c.Split = tree(x)
		if each == 1 {
			checkTok(t, c, s, all...)
		} else {
			checkTok(t, c, s, slices.Repeat([]int{256}, len(all)/2)...)
		}
	}
	c.Split = tree("a*b")
	checkTok(t, c, s[1:]+"b", append(slices.Repeat([]int{256}, len(all)/2-16), 'b')...)
	c.Split = tree("(aaa)*b|a{3}")
	checkTok(t, c, s, append(slices.Repeat([]int{256, 'a'}, len(all)/3), 'a', 'a')...) // two bytes are left, and a piece of two is none
}

// taken asks for the pieces of a text by an expression. Ids tell where they end: with merges that make one id of each piece, and with one merge alone, of each two bytes that stand side by side, which is done within a piece only.
func taken(t *testing.T, x, s string, pieces ...string) {
	t.Helper()
	if meant := meantPieces(tree(x), s); !slices.Equal(meant, pieces) {
		t.Errorf("%s by %q: meant is %q; want %q", show(s), x, meant, pieces)
	}
	lists := [][]api.Merge{chains(pieces)}
	for i := range len(s) - 1 {
		lists = append(lists, pairs(int(s[i]), int(s[i+1])))
	}
	for _, l := range lists {
		var want []int
		for _, piece := range pieces {
			want = append(want, meantMerged(l, piece)...)
		}
		checkTok(t, api.Config{Split: tree(x), Merges: l}, s, want...)
	}
}

// chains is merges that put byte behind byte, up to each of these texts.
func chains(texts []string) (l []api.Merge) {
	for _, s := range texts {
		id := int(s[0])
		for i := 1; i < len(s); i++ {
			m := api.Merge{Left: id, Right: int(s[i])}
			if !slices.Contains(l, m) {
				l = append(l, m)
			}
			id = 256 + slices.Index(l, m)
		}
	}
	return l
}

// P18.1: pieces, as chapter 10 takes a text apart.
func TestPieces(t *testing.T) {
	taken(t, "[a-z]+|[0-9]{1,2}", "ab123 c", "ab", "12", "3", " ", "c")
	taken(t, "a*b", "aaab aa", "aaab", " ", "a", "a")
	taken(t, "a*", "baa", "b", "aa")
	taken(t, "a|abc|abcdef", "abcdeabcdefab", "abc", "d", "e", "abcdef", "a", "b")
	taken(t, "ab|a*c", "aabaac", "a", "ab", "aac")
	taken(t, "(ab)+|b(ab)*c", "bababab", "b", "ababab")
	taken(t, "(ab)+|b(ab)*c", "bababc", "bababc")
	taken(t, "(a|ab)(c|bcd)", "abcdabc", "abcd", "abc")
	taken(t, "-?[0-9]+(\\.[0-9]+)?", "-1.5.2.-x", "-1.5", ".", "2", ".", "-", "x")
	taken(t, "(a?){3}", "aaaaabaa", "aaa", "aa", "b", "aa")
	taken(t, "((a|b)*c)*", "abcabab", "abc", "a", "b", "a", "b")
	taken(t, "a{2}|a{5}", "aaaaaaaaa", "aaaaa", "aa", "aa")
	taken(t, " ?[a-z]+", "ab  cd", "ab", " ", " cd")
	for _, s := range []string{"a", "ab", "aaab", "\x00\xff\x80", "\u00e9\u20ac", everything()} {
		for _, x := range []string{"[^\\x00-\\xff]", "", "()", "a{0}", "()*", "(|)", "[^\\x00-\\xff]*"} { // nothing, or the empty text alone
			taken(t, x, s, bytewise(s)...)
		}
		c := api.Config{Split: tree("[\\x00-\\xff]*"), Merges: pairs('a', 'a')}
		checkTok(t, c, s+s, meantMerged(c.Merges, s+s)...)
	}
}

// bytewise is a text's bytes, each a text of its own.
func bytewise(s string) (l []string) {
	for i := range len(s) {
		l = append(l, s[i:i+1])
	}
	return l
}

// P18.1: a piece is told apart from the next one, since no merge reaches over both.
func TestMergesWithinPieces(t *testing.T) {
	ab := pairs('a', 'b', 256, 'c', 'b', 'c', ' ', 'a')
	for x, want := range map[string][]int{
		"[a-z]+":          {257, ' ', 257},
		"[a-z ]+":         {257, ' ', 257},
		".":               {'a', 'b', 'c', ' ', 'a', 'b', 'c'},
		"a|bc":            {'a', 258, ' ', 'a', 258},
		"ab":              {256, 'c', ' ', 256, 'c'},
		" a":              {'a', 'b', 'c', 259, 'b', 'c'},
		" a|bc":           {'a', 258, 259, 258},
		" ab|bc":          {'a', 258, ' ', 256, 'c'},
		"[^\\x00-\\xff]*": {'a', 'b', 'c', ' ', 'a', 'b', 'c'},
	} {
		checkTok(t, api.Config{Split: tree(x), Merges: ab}, "abc abc", want...)
	}
	four := api.Config{Split: tree("a{3}"), Merges: doubled('a', 3)}
	checkTok(t, four, "aaaaaaaa", 256, 'a', 256, 'a', 'a', 'a')
	checkTok(t, api.Config{Split: tree("aa"), Merges: doubled('a', 3)}, "aaaa", 256, 256)
	checkTok(t, api.Config{Split: tree("a+"), Merges: doubled('a', 3)}, "aaaaaaaab", 258, 'b')
	most := twoByTwo(1024)
	checkTok(t, api.Config{Split: tree("[\\x00-\\xff]{2}"), Merges: most, Names: numbered(64), Before: []int{63}, After: []int{0}}, "\x05\x03\xff\x00\x00\x04", 1343, 256+5+3*256, 511, 0, 4, 1280)
}

// P18.1: texts that are not well-formed, each byte at each place.
func TestAnyBytes(t *testing.T) {
	all := everything()
	checkTok(t, parsed("split ."), all, upTo(256)...)
	checkTok(t, parsed("split [\\x00-\\xff]*"), all+all, append(upTo(256), upTo(256)...)...)
	for b := range 256 {
		sign := string([]byte{byte(b)})
		set := api.Set{}
		set.S[b/64] = 1 << (b % 64)
		only := api.Re{Kind: api.RRep, Min: 1, Max: -1, Kids: []api.Re{{Kind: api.RSet, Set: set}}}
		c := api.Config{Split: only, Merges: pairs(b, b)}
		checkTok(t, c, sign+sign, 256)
		checkTok(t, c, all[:b]+sign+sign+sign, append(upTo(b), 256, b)...)
		c.Split = api.Re{Kind: api.RSet, Set: set}
		checkTok(t, c, sign+sign, b, b)
		c.Passes = [][]api.Rule{rules(sign, "\xc3\xa9")}
		checkNormal(t, c, all, all[:b]+"\xc3\xa9"+all[b+1:])
	}
	c := parsed(`split [\x80-\xff]+/merge "\xc3" "\xa9"/merge "\xe2" "\x82"/merge "\xff" "\xff"`)
	checkTok(t, c, "\xc3\xa9\xe2\x82A\xc3\xff\xff\xff", 256, 257, 'A', 0xC3, 258, 0xFF)
	checkNormal(t, c, "\xc3\xa9\xe2\x82A\xc3\xff", "\xc3\xa9\xe2\x82A\xc3\xff")
}

// P18.1: what stands before and after, in the order of the list, as often as it stands there.
func TestFrames(t *testing.T) {
	c := chapter()
	c.Names = numbered(64)
	inner := []int{257, ' ', 256}
	for _, x := range []struct{ before, after []int }{
		{nil, nil}, {[]int{}, []int{}}, {[]int{0}, nil}, {nil, []int{0}}, {[]int{5}, []int{7}}, {[]int{63}, []int{63}}, {[]int{3, 3}, []int{3, 3, 3}}, {[]int{2, 1, 2}, []int{1, 0}},
		{upTo(32), upTo(64)[32:]}, {make([]int, 32), slices.Repeat([]int{63}, 32)}, {nil, upTo(32)}, {upTo(32), nil},
	} {
		c.Before, c.After = x.before, x.after
		want := []int{}
		for _, n := range x.before {
			want = append(want, 258+n)
		}
		empty := slices.Clone(want)
		want = append(want, inner...)
		for _, n := range x.after {
			want = append(want, 258+n)
			empty = append(empty, 258+n)
		}
		checkTok(t, c, "abc ab", want...)
		checkTok(t, c, "", empty...)
		checkMeant(t, c, "abc ab")
	}
}

// P18.1: names are no texts: where one stands in a text, it is bytes.
func TestNamesInTexts(t *testing.T) {
	c := chapter()
	checkTok(t, c, "<s>", 258, '<', 's', '>')
	c.Passes = [][]api.Rule{rules("<s>", "ab")}
	checkTok(t, c, "<s>", 258, 256)
}

// P18.4: without merges each byte of the normal text is its own id, however it is taken apart.
func TestNoMerges(t *testing.T) {
	for _, x := range []string{".", "[a-z]+", "[\\x00-\\xff]*", "a*b", "[^\\x00-\\xff]", "", "ab|abc"} {
		for _, l := range [][]api.Merge{nil, {}} {
			c := api.Config{Split: tree(x), Merges: l, Names: numbered(2), Before: []int{1}, After: []int{0}, Passes: [][]api.Rule{rules("A", "ab")}}
			checkTok(t, c, "abcA\xff", 257, 'a', 'b', 'c', 'a', 'b', 0xFF, 256)
			checkTok(t, c, everything(), append(append([]int{257}, idsOf(strings.Replace(everything(), "A", "ab", 1))...), 256)...)
		}
	}
}

// P18.1 to P18.4: configurations and texts that are drawn, as the chapter's words tell of them.
func TestDrawn(t *testing.T) {
	merges, parted, rewritten := 0, 0, 0
	for i := range uint64(6000) {
		d := dice(i)
		c := drawn(d)
		for range 4 {
			s := text(d, one(d, 4, 12, 40))
			checkMeant(t, c, s)
			normal := meantNormal(c, s)
			ids := meantTok(c, s)
			if len(ids) < len(normal)+len(c.Before)+len(c.After) {
				merges++
			}
			if normal != s {
				rewritten++
			}
			if n := len(meantPieces(c.Split, normal)); n > 1 && n < len(normal) {
				parted++
			}
		}
		if t.Failed() {
			t.Fatal("at", i)
		}
	}
	if merges < 2000 || parted < 2000 || rewritten < 2000 {
		t.Error("too few were merged, parted, rewritten:", merges, parted, rewritten)
	}
}

// P18.1: longer texts, taken apart by nfa.Ends, too, which goes on anew from each place.
func TestDrawnByEnds(t *testing.T) {
	for i := range uint64(300) {
		d := dice(70000 + i)
		c := drawn(d)
		s := text(d, 400)
		n, e := nfa.Build(c.Split)
		if e != api.OK {
			t.Fatal(show(c), e)
		}
		want := meantTok(c, "")
		normal, _ := tok.Normal(c, s)
		for at := 0; at < len(normal); {
			to := at + 1
			if ends := nfa.Ends(n, normal, at); len(ends) > 0 {
				to = max(to, ends[len(ends)-1])
			}
			ids, _ := merge.Tokens(c.Merges, normal[at:to])
			want = slices.Insert(want, len(want)-len(c.After), ids...)
			at = to
		}
		checkTok(t, c, s, want...)
	}
}

// R4, R7: what is answered is new memory, and what is given stays as it is.
func TestAnswersAreTheirOwn(t *testing.T) {
	for i := range uint64(500) {
		d := dice(80000 + i)
		c := drawn(d)
		if i%3 == 0 {
			c.Passes = nil
		}
		s := text(d, 30)
		kept := copied(c)
		normal, _ := tok.Normal(c, s)
		again, _ := tok.Normal(c, s)
		for _, given := range append(spans(c), textSpan(s), textSpan(again)) {
			if textSpan(normal).meets(given) {
				t.Error("Normal shares its memory", show(c), show(s))
			}
		}
		ids, _ := tok.Tok(c, s)
		others, _ := tok.Tok(c, s)
		for _, given := range append(spans(c), listSpan(others)) {
			if listSpan(ids).meets(given) {
				t.Error("Tok shares its memory", show(c), show(s))
			}
		}
		if !same(c, kept) {
			t.Errorf("%s was given, and is %s", show(kept), show(c))
		}
	}
	frames := upTo(9)
	c := chapter()
	c.Names, c.Before, c.After = numbered(9), frames[:3], frames[3:4]
	tok.Tok(c, "abc ab")
	if !slices.Equal(frames, upTo(9)) {
		t.Error("what stands behind Before was changed", frames)
	}
}

// R1: each call is a function of its arguments alone, also if several call at one time.
func TestCallsAtOneTime(t *testing.T) {
	var group sync.WaitGroup
	for range 16 {
		group.Go(func() {
			for i := range uint64(30) {
				d := dice(90000 + i)
				c := drawn(d)
				checkMeant(t, c, text(d, 30))
				checkTexts(t, c, drawnIds(d, c))
				checkFails(t, api.Config{}, "", api.ErrTree)
			}
		})
	}
	group.Wait()
}

// P1, P18.1 to P18.4: whatever the text, and whatever the configuration's.
func FuzzTok(f *testing.F) {
	for i := range uint64(20) {
		d := dice(i)
		lines, e := config.Print(drawn(d))
		if e != api.OK {
			f.Fatal(e)
		}
		f.Add(lines, text(d, 30))
	}
	f.Fuzz(func(t *testing.T, lines, s string) {
		c, e, _ := config.Parse(lines)
		if e != api.OK {
			checkFails(t, c, s, api.ErrTree)
			return
		}
		s = s[:min(len(s), 60)]
		if len(meantNormal(c, s)) > 100 { // the chapter's words are slow
			t.Skip()
		}
		checkMeant(t, c, s)
		checkTexts(t, c, meantTok(c, s))
	})
}
