package ir_test

import (
	"fmt"
	"slices"
	"strings"
	"testing"

	"fretsaw/api"
	"fretsaw/config"
	"fretsaw/dfa"
	"fretsaw/ir"
	"fretsaw/mini"
	"fretsaw/nfa"
	"fretsaw/tok"
	"fretsaw/trans"
)

// lowered is the stages of a configuration that must have them: P19.3, too.
func lowered(t *testing.T, c api.Config) []api.Stage {
	t.Helper()
	g, e := ir.Lower(c)
	if e != api.OK || !ir.Right(g) || !meantRight(g) {
		t.Fatalf("Lower(%s) = %s, %d", show(c), showStages(g), e)
	}
	maps := len(c.Passes)
	if len(g) != maps+3 {
		t.Fatalf("Lower(%s) has %d stages", show(c), len(g))
	}
	for i, s := range g[:maps] {
		if want := (api.Stage{Kind: api.SMap, Machine: s.Machine}); !sameStage(s, want) {
			t.Errorf("Lower(%s): more than a machine in the SMap %d", show(c), i)
		}
	}
	split := api.Stage{Kind: api.SSplit, Dfa: g[maps].Dfa, Map: plainMap()}
	merge := api.Stage{Kind: api.SMerge, Merges: c.Merges}
	frame := api.Stage{Kind: api.SFrame}
	for _, n := range c.Before {
		frame.Before = append(frame.Before, 256+len(c.Merges)+n)
	}
	for _, n := range c.After {
		frame.After = append(frame.After, 256+len(c.Merges)+n)
	}
	for i, want := range []api.Stage{split, merge, frame} {
		if !sameStage(g[maps+i], want) {
			t.Errorf("Lower(%s): %s", show(c), showStages(g[maps+i:maps+i+1]))
		}
	}
	return g
}

// checkLowerFails asks for an error, and that nothing stands beside it.
func checkLowerFails(t *testing.T, c api.Config, want api.Errno) {
	t.Helper()
	if g, e := ir.Lower(c); e != want || len(g) > 0 {
		t.Errorf("Lower(%s) = %s, %d; want %d alone", show(c), showStages(g), e, want)
	}
}

// froms is how many bytes all Froms have together.
func froms(l []api.Rule) (n int) {
	for _, r := range l {
		n += len(r.From)
	}
	return n
}

// hasLeast tells whether Split's least dfa is told.
func hasLeast(t api.Re) bool {
	n, e := nfa.Build(t)
	if e != api.OK {
		return false
	}
	_, e = dfa.Build(n)
	return e == api.OK
}

// mustLower tells whether ErrStates may not be told.
func mustLower(c api.Config) bool {
	return hasLeast(c.Split) && !slices.ContainsFunc(c.Passes, func(l []api.Rule) bool { return froms(l) > 100 })
}

// checkTold asks that the stages of a configuration tell what tok.Tok tells: P19.2. It answers whether there are stages.
func checkTold(t *testing.T, c api.Config, texts ...string) bool {
	t.Helper()
	if _, e := ir.Lower(c); e == api.ErrStates && !mustLower(c) {
		checkLowerFails(t, c, e)
		return false
	}
	g := lowered(t, c)
	for _, s := range texts {
		want, e := tok.Tok(c, s)
		if e != api.OK {
			checkEvalFails(t, g, s, e)
			continue
		}
		checkEval(t, g, s, want...)
		if len(want) < 60 {
			checkMeant(t, g, s)
		}
	}
	return true
}

// wrong is a configuration that may not be.
type wrong struct {
	c api.Config
	e api.Errno
}

// wrongs is one for each error of config.Right, and those for which several things are to blame.
func wrongs() (l []wrong) {
	add := func(e api.Errno, harm func(c *api.Config)) {
		c := chapter()
		harm(&c)
		l = append(l, wrong{c, e})
	}
	add(api.ErrConfig, func(c *api.Config) { c.Passes = make([][]api.Rule, 5) })
	add(api.ErrLong, func(c *api.Config) { c.Passes = [][]api.Rule{nil, spreadOut(64, 1)} })
	add(api.ErrRule, func(c *api.Config) { c.Passes = [][]api.Rule{rules("", "a")} })
	add(api.ErrRule, func(c *api.Config) { c.Passes = [][]api.Rule{nil, nil, nil, rules("a", "b", "a", "c")} })
	add(api.ErrRule, func(c *api.Config) { c.Passes = [][]api.Rule{rules(strings.Repeat("a", 17), "")} })
	add(api.ErrRule, func(c *api.Config) { c.Passes = [][]api.Rule{rules("a", strings.Repeat("a", 33))} })
	add(api.ErrConfig, func(c *api.Config) { c.Passes = [][]api.Rule{rules("a", "aaa"), rules("a", "bbbbbbbbbbb")} })
	add(api.ErrTree, func(c *api.Config) { c.Split = api.Re{} })
	add(api.ErrTree, func(c *api.Config) { c.Split = api.Re{Kind: api.RAlt} })
	add(api.ErrLong, func(c *api.Config) { c.Split = tree(strings.Repeat("|", 511)) })
	add(api.ErrLong, func(c *api.Config) {
		for range 30 {
			c.Split = api.Re{Kind: api.RRep, Max: -1, Kids: []api.Re{c.Split}}
		}
	})
	add(api.ErrConfig, func(c *api.Config) { c.Split = tree(strings.Repeat("a", 500)) })
	add(api.ErrConfig, func(c *api.Config) { c.Split = tree("((a{20}){20}){20}") })
	add(api.ErrLong, func(c *api.Config) { c.Merges = twoByTwo(1025) })
	add(api.ErrMerge, func(c *api.Config) { c.Merges = pairs('a', 'b', 'a', 'b') })
	add(api.ErrMerge, func(c *api.Config) { c.Merges = pairs('a', 256) })
	add(api.ErrMerge, func(c *api.Config) { c.Merges = doubled('a', 7) })
	add(api.ErrConfig, func(c *api.Config) { c.Names = numbered(65) })
	add(api.ErrConfig, func(c *api.Config) { c.Names = []string{"a", ""} })
	add(api.ErrConfig, func(c *api.Config) { c.Names = []string{"a", "a"} })
	add(api.ErrConfig, func(c *api.Config) { c.Names = []string{strings.Repeat("a", 33)} })
	add(api.ErrConfig, func(c *api.Config) { c.Before = []int{1} })
	add(api.ErrConfig, func(c *api.Config) { c.Before = make([]int, 33) })
	add(api.ErrConfig, func(c *api.Config) { c.After = []int{-1} })
	add(api.ErrConfig, func(c *api.Config) { c.After = make([]int, 33) })
	add(api.ErrRule, func(c *api.Config) { c.Passes, c.Split = [][]api.Rule{spreadOut(32, 32), rules("", "")}, api.Re{} })
	add(api.ErrTree, func(c *api.Config) { c.Split, c.Merges, c.Names = api.Re{}, twoByTwo(1025), nil })
	add(api.ErrMerge, func(c *api.Config) { c.Merges, c.Names = pairs(-1, 0), nil })
	add(api.ErrMerge, func(c *api.Config) {
		c.Passes, c.Split, c.Merges = [][]api.Rule{spreadOut(32, 32)}, tree(tooMany), pairs(-1, 0)
	})
	add(api.ErrConfig, func(c *api.Config) {
		c.Passes, c.Split, c.After = [][]api.Rule{spreadOut(32, 32)}, tree(tooMany), []int{1}
	})
	return append(l, wrong{api.Config{}, api.ErrTree})
}

// tooMany has more states than a dfa may have, and a SIZE that may be.
const tooMany = "(a|b)*a(a|b){9}"

// chapter is the configuration of the chapter ahead.
func chapter() api.Config {
	return parsed(`split [a-z]+/merge "a" "b"/merge "ab" "c"/name "<s>"/before "<s>"`)
}

// spreadOut is long rules that share no beginnings, and others of one byte, at each of which each state puts something else: of 32 and 32 there is no machine.
func spreadOut(long, ones int) (l []api.Rule) {
	for i := range long {
		one := string([]byte{byte(i)})
		l = append(l, api.Rule{From: one + strings.Repeat("-", 15), To: "x" + one})
	}
	for i := range ones {
		l = append(l, api.Rule{From: string([]byte{byte(128 + i)}), To: "y" + string([]byte{byte(i)})})
	}
	return l
}

// P19.2: config.Right's error, ahead of ErrStates.
func TestLowerWrong(t *testing.T) {
	for _, x := range wrongs() {
		if e := config.Right(x.c); e != x.e {
			t.Errorf("config.Right(%s) = %d; want %d", show(x.c), e, x.e)
		}
		checkLowerFails(t, x.c, x.e)
	}
}

// P19.2, P19.3: the example of chapter 18, and what the stages are.
func TestLowerChapter(t *testing.T) {
	c := chapter()
	g := lowered(t, c)
	checkEval(t, g, "abcab c", 258, 257, 256, 32, 99)
	checkEval(t, g, "", 258)
	if len(g) != 3 || !slices.Equal(g[1].Merges, pairs('a', 'b', 256, 'c')) || !slices.Equal(g[2].Before, []int{258}) || len(g[2].After) != 0 {
		t.Error(showStages(g))
	}
	c.Passes = [][]api.Rule{rules("A", "a")}
	g = lowered(t, c)
	checkEval(t, g, "Ab", 258, 256)
	if to, is := trans.Bytes(g[0].Machine); !is || to['A'] != 'a' || to['B'] != 'B' {
		t.Error("A to a makes", to, is)
	}
	checkTold(t, c, "", "Ab", "AbcaB c", everything())
}

// P19.3: merges and names, none of them and as many as may be.
func TestLowerMergesAndNames(t *testing.T) {
	for _, merges := range [][]api.Merge{nil, {}, pairs('a', 'b'), doubled('a', 6), twoByTwo(1024)} {
		for _, names := range []int{0, 1, 2, 64} {
			last := []int{names - 1}[:min(names, 1)]
			for _, before := range [][]int{nil, {}, last, slices.Repeat(last, 32), upTo(min(names, 32)), slices.Repeat([]int{0}[:min(names, 1)], 5)} {
				c := api.Config{Split: tree("[a-z]+"), Merges: merges, Names: numbered(names), Before: before, After: last}
				checkTold(t, c, "", "ab", "abaaaa aaab\x00\x00\x05\x03", "n0 n1")
				c.Before, c.After = c.After, c.Before
				checkTold(t, c, "", "ab")
			}
		}
	}
	most := api.Config{Split: tree("[\\x00-\\xff]*"), Merges: twoByTwo(1024), Names: numbered(64), Before: []int{63, 0}, After: []int{5}}
	checkEval(t, lowered(t, most), "\x05\x03", 1343, 1280, 256+5+3*256, 1285)
	if texts := lowered(t, api.Config{Split: tree("."), Names: []string{"ab"}, Before: []int{0}}); !slices.Equal(texts[2].Before, []int{256}) {
		t.Error(showStages(texts))
	}
}

// P19.3: an SMap for each pass, in order: also for one without rules.
func TestLowerPasses(t *testing.T) {
	all := [][]api.Rule{rules("a", "b"), rules("b", "cc"), rules("ccc", "d", "c", "a"), rules("ad", "!", "a", "-")}
	want := []string{"aab", "bbb", "cccccc", "dd", "dd"}
	texts := []string{"", "a", "aab", "bb", "aad", "xyz", "abcabcd", everything()}
	for many := range 5 {
		c := api.Config{Split: tree("."), Passes: all[:many]}
		checkTold(t, c, texts...)
		g := lowered(t, c)
		checkEval(t, g, "aab", idsOf(want[many])...)
		for i, rules := range c.Passes {
			m, _ := trans.Build(rules)
			for _, s := range texts {
				if got, told := meantPut(g[i].Machine, s), meantPut(m, s); got != told {
					t.Errorf("the pass %d makes %s of %s; want %s", i, show(got), show(s), show(told))
				}
			}
		}
		c.Passes = slices.Repeat([][]api.Rule{{}}, many)
		checkTold(t, c, texts...)
		c.Passes = make([][]api.Rule, many)
		checkTold(t, c, texts...)
		c.Passes = slices.Repeat([][]api.Rule{rules("a", "ab", "ba", "a")}, many)
		checkTold(t, c, texts...)
	}
	turned := api.Config{Split: tree("."), Passes: [][]api.Rule{rules("b", "c"), rules("a", "b")}}
	checkEval(t, lowered(t, turned), "ab", 'b', 'c')
}

// P19.2: texts of MaxInput bytes, made 32 times as long.
func TestLowerLongTexts(t *testing.T) {
	s := strings.Repeat("a", mostInput)
	long := strings.Repeat("a", 32)
	for _, passes := range [][][]api.Rule{
		nil, {rules("a", "")}, {rules("aa", "b", "a", "c")}, {rules("a", long)}, {nil, rules("a", long), nil, nil}, {rules("a", "aa"), rules("a", "aaaa"), rules("a", "aa"), rules("a", "aa")},
		{rules("a", "bbbb"), rules("b", "aaaaaaaa")}, {rules("a", long), rules("a", "")}, {rules("aaaaaaaaaaaaaaa", "b", "aaaaaaaaaaaaaaaa", "")},
	} {
		for _, x := range []string{"a+", "a*b"} {
			c := api.Config{Passes: passes, Split: tree(x), Merges: doubled('a', 6), Names: numbered(1), Before: []int{0}}
			checkTold(t, c, s, s+"a", s[1:]+"b", strings.Repeat(s, 33))
		}
	}
}

// P19.2: splits of all kinds; none whose least dfa is told is ErrStates.
func TestLowerSplits(t *testing.T) {
	for _, x := range []string{
		"", "()", "a", ".", "[^\\x00-\\xff]", "[\\x00-\\xff]*", "a*", "a+", "a?", "a*b?", "(a|ab)(c|bcd)", "a{3}", "a{2,}", "a{0,3}", "(a|b)*abb", "(a*b*)*", "((a|b)*c|a){2,3}",
		"[a-z]+|[0-9]{1,2}", "a*b", "(a|b)*a(a|b){3}", "(a|b)*a(a|b){7}", "((a?)*b?)*", "(ab|a)(bc|c)?", "'s| ?[a-z]+| ?[0-9]+| +", "(a{0,3}b{0,3}){0,4}", "[\\x80-\\xff]+|ab",
	} {
		c := api.Config{Split: tree(x), Merges: pairs('a', 'b', 256, 'c', 'b', 'c', 'a', 'a')}
		if !checkTold(t, c, "", "a", "abc", "aaab aa", "abcabcabcd", "it's 12 o'clock", "baabbabaab", everything(), strings.Repeat("abc", 20)) {
			t.Errorf("%q is not lowered", x)
		}
	}
	full := "(a{20}){19}a{19}" // 400 states
	a := strings.Repeat("a", 1000)
	g := lowered(t, api.Config{Split: tree(full), Merges: doubled('a', 3)})
	if n := len(g[0].Dfa.Next); n != 400 {
		t.Error("states:", n)
	}
	if !checkTold(t, api.Config{Split: tree(full), Merges: doubled('a', 3)}, a, a[:398], a[:399], a[:400], a[:399]+"b"+a) {
		t.Error("400 states are not lowered")
	}
	for _, x := range []string{tooMany, "(a{20}){20}", "(a|b)*a(a|b){8}", "[ab]*a[ab]{12}|c"} {
		if hasLeast(tree(x)) {
			t.Errorf("%q has a dfa", x)
		}
		checkLowerFails(t, api.Config{Split: tree(x)}, api.ErrStates)
		checkLowerFails(t, api.Config{Split: tree(x), Passes: [][]api.Rule{nil, rules("a", "b")}, Merges: pairs('a', 'b')}, api.ErrStates)
	}
	for n := range 10 {
		x := fmt.Sprintf("(a|b)*a(a|b){%d}", n)
		if got := checkTold(t, api.Config{Split: tree(x)}, "aabbab", a); got != (n < 8) {
			t.Errorf("%q is lowered: %t", x, got)
		}
	}
}

// P19.2, P9.1: the dfa is Split's least one.
func TestLowerLeast(t *testing.T) {
	for i := range uint64(300) {
		c := api.Config{Split: tree(expression(dice(40000+i), 4))}
		n, _ := nfa.Build(c.Split)
		d, e := dfa.Build(n)
		if e != api.OK {
			continue
		}
		want, _ := mini.Least(d)
		if got := lowered(t, c)[0].Dfa; !sameDfa(got, want) {
			t.Errorf("Lower(%s): a dfa of %d states; the least one has %d", show(c), len(got.Next), len(want.Next))
		}
	}
}

// hundred is rules of which all Froms together have 100 bytes: of that many bytes each, but the last ones, which have fewer.
func hundred(size int, from func(i, size int) string) (l []api.Rule) {
	for left := 100; left > 0; {
		n := min(size, left, api.MaxFrom)
		left -= n
		l = append(l, api.Rule{From: from(len(l), n), To: strings.Repeat("+", len(l)%n)})
	}
	return l
}

// P19.2: passes of which all Froms together have 100 bytes are never ErrStates.
func TestLowerHundred(t *testing.T) {
	for _, size := range []int{2, 3, 5, 8, 15, 16} {
		for name, from := range map[string]func(i, size int) string{
			"begins": func(i, size int) string { return string([]byte{byte(i)}) + strings.Repeat("-", size-1) },
			"ends":   func(i, size int) string { return strings.Repeat("-", size-1) + string([]byte{byte(i)}) },
			"middle": func(i, size int) string {
				return strings.Repeat("a", size/2) + string([]byte{byte(i)}) + strings.Repeat("a", size-size/2-1)
			},
		} {
			l := hundred(size, from)
			if froms(l) != 100 || config.Right(api.Config{Passes: [][]api.Rule{l}, Split: tree("a")}) != api.OK {
				t.Error(name, size, froms(l))
			}
			c := api.Config{Passes: [][]api.Rule{l, l, nil, l}, Split: tree("[^+]+"), Merges: pairs('-', '-')}
			s := l[0].From + l[1].From[1:] + l[len(l)-1].From + "--" + l[2].From[:1] + l[1].From + strings.Repeat("-", 40) + strings.Repeat("a", 20)
			if !checkTold(t, c, "", s, s+s) {
				t.Error(name, size, "is not lowered")
			}
		}
	}
	for i := range uint64(100) {
		d := dice(50000 + i)
		var l []api.Rule
		for many := 0; many < 300 && froms(l) < 100 && len(l) < 64; many++ {
			r := api.Rule{From: text(d, min(16, 100-froms(l)))}
			r.To = text(d, len(r.From))
			if r.From != "" && !slices.ContainsFunc(l, func(o api.Rule) bool { return o.From == r.From }) {
				l = append(l, r)
			}
		}
		c := api.Config{Passes: slices.Repeat([][]api.Rule{l}, 1+d.IntN(4)), Split: tree("[a-c]+"), Merges: drawnMerges(d)}
		if !checkTold(t, c, "", text(d, 60), l[0].From+l[len(l)-1].From+text(d, 60)) {
			t.Error("at", i, "is not lowered")
		}
	}
}

// P19.2: passes without a machine are ErrStates, wherever they stand; others of as many bytes are built.
func TestLowerGreatPasses(t *testing.T) {
	great := spreadOut(32, 32)
	if _, e := trans.Build(great); e != api.ErrStates || config.Right(api.Config{Passes: [][]api.Rule{great}, Split: tree("a")}) != api.OK {
		t.Fatal("these rules show nothing:", e)
	}
	for at := range 4 {
		c := api.Config{Passes: make([][]api.Rule, 4), Split: tree("a+")}
		c.Passes[at] = great
		checkLowerFails(t, c, api.ErrStates)
		c.Passes = c.Passes[:at+1]
		checkLowerFails(t, c, api.ErrStates)
		c.Split = tree(tooMany)
		checkLowerFails(t, c, api.ErrStates)
	}
	l := spreadOut(64, 0)
	checkTold(t, api.Config{Passes: [][]api.Rule{l}, Split: tree("[^\\-]+|x")}, everything(), l[3].From+l[4].From[:9]+l[63].From+"\x00-")
}

// P19.2, P19.3: configurations and texts that are drawn.
func TestLowerDrawn(t *testing.T) {
	told := 0
	for i := range uint64(2500) {
		d := dice(60000 + i)
		c := drawn(d)
		if checkTold(t, c, "", text(d, 4), text(d, 12), text(d, 40), text(d, 400)) {
			told++
		}
		if t.Failed() {
			t.Fatal("at", i)
		}
	}
	if told < 2300 {
		t.Error("too few were lowered:", told)
	}
}

// P1, P19.2: whatever the configuration's text, and whatever the text.
func FuzzLower(f *testing.F) {
	for i := range uint64(20) {
		d := dice(i)
		lines, e := config.Print(drawn(d))
		if e != api.OK {
			f.Fatal(e)
		}
		f.Add(lines, text(d, 30))
	}
	f.Fuzz(func(t *testing.T, lines, s string) {
		c, e, _ := config.Parse(lines)
		if e != api.OK {
			checkLowerFails(t, c, api.ErrTree)
			return
		}
		checkTold(t, c, "", s[:min(len(s), 60)], s)
	})
}
