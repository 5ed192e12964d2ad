package config_test

import (
	"fmt"
	"math"
	"slices"
	"strings"
	"testing"

	"fretsaw/api"
	"fretsaw/config"
)

// checkRight asks whether a configuration may be; what may not be is not printed, and nothing stands beside the error.
func checkRight(t *testing.T, c api.Config, want api.Errno) {
	t.Helper()
	if e := config.Right(c); e != want {
		t.Errorf("Right(%s) = %d; want %d", show(c), e, want)
	}
	if meant := meantRight(c); meant != want {
		t.Errorf("Right(%s): meant is %d; want %d", show(c), meant, want)
	}
	if s, e := config.Print(c); want != api.OK && (s != "" || e != want) {
		t.Errorf("Print(%s) = %s, %d; want %d", show(c), showText(s), e, want)
	}
}

// plain is a configuration that may be, with something of all kinds.
func plain() api.Config {
	return api.Config{
		Passes: [][]api.Rule{{{From: "A", To: "a"}}},
		Split:  tree("[a-z]+"),
		Merges: []api.Merge{{Left: 97, Right: 98}, {Left: 256, Right: 99}},
		Names:  []string{"<s>", "</s>"},
		Before: []int{0},
		After:  []int{1, 0},
	}
}

// growing is rules by which one byte may become so many.
func growing(times int) []api.Rule {
	return []api.Rule{{From: "x", To: strings.Repeat("y", times)}}
}

// numbered is so many names.
func numbered(many int) (l []string) {
	for i := range many {
		l = append(l, fmt.Sprint("n", i))
	}
	return l
}

// numberedRules is so many rules.
func numberedRules(many int) (l []api.Rule) {
	for _, name := range numbered(many) {
		l = append(l, api.Rule{From: name})
	}
	return l
}

// pairs is so many merges, each of two bytes.
func pairs(many int) (l []api.Merge) {
	for i := range many {
		l = append(l, api.Merge{Left: i % 256, Right: i / 256})
	}
	return l
}

// within is a byte within so many repetitions.
func within(times, least, most int) api.Re {
	t := tree("a")
	for range times {
		t = api.Re{Kind: api.RRep, Min: least, Max: most, Kids: []api.Re{t}}
	}
	return t
}

// P17.2: configurations that may be.
func TestRight(t *testing.T) {
	checkRight(t, plain(), api.OK)
	checkRight(t, api.Config{Split: tree("")}, api.OK)
	checkRight(t, api.Config{Passes: [][]api.Rule{}, Split: tree("."), Merges: []api.Merge{}, Names: []string{}, Before: []int{}, After: []int{}}, api.OK)
	checkRight(t, api.Config{Passes: [][]api.Rule{nil, {}}, Split: tree("a|b")}, api.OK)
	checkRight(t, api.Config{}, api.ErrTree)
}

// P17.2: passes, their rules, and how much a text grows by all of them.
func TestRightPasses(t *testing.T) {
	c := plain()
	c.Passes = make([][]api.Rule, 4)
	checkRight(t, c, api.OK)
	c.Passes = make([][]api.Rule, 5)
	checkRight(t, c, api.ErrConfig)
	c.Passes = make([][]api.Rule, 100000)
	checkRight(t, c, api.ErrConfig)

	for _, x := range []struct {
		l []api.Rule
		e api.Errno
	}{
		{numberedRules(64), api.OK}, {numberedRules(65), api.ErrLong}, {[]api.Rule{{}}, api.ErrRule}, {[]api.Rule{{From: "a"}, {From: "a"}}, api.ErrRule},
		{[]api.Rule{{From: strings.Repeat("a", 17)}}, api.ErrRule}, {growing(33), api.ErrRule}, {make([]api.Rule, 65), api.ErrLong},
	} {
		for at := range 4 {
			c.Passes = make([][]api.Rule, 4)
			c.Passes[at] = x.l
			checkRight(t, c, x.e)
		}
	}
	c.Passes = [][]api.Rule{{{From: "a"}}, {{}}, numberedRules(65)}
	checkRight(t, c, api.ErrRule)
	c.Passes = [][]api.Rule{{{From: "a"}}, numberedRules(65), {{}}}
	checkRight(t, c, api.ErrLong)

	for _, x := range []struct {
		times []int
		e     api.Errno
	}{
		{[]int{32}, api.OK}, {[]int{1, 32}, api.OK}, {[]int{32, 1, 1, 1}, api.OK}, {[]int{32, 0}, api.OK}, {[]int{8, 4}, api.OK}, {[]int{2, 4, 2, 2}, api.OK}, {[]int{31, 1}, api.OK}, {[]int{2, 2, 8, 1}, api.OK},
		{[]int{11, 3}, api.ErrConfig}, {[]int{3, 11}, api.ErrConfig}, {[]int{3, 1, 1, 11}, api.ErrConfig}, {[]int{2, 17}, api.ErrConfig}, {[]int{6, 6}, api.ErrConfig}, {[]int{32, 2}, api.ErrConfig}, {[]int{32, 32, 32, 32}, api.ErrConfig}, {[]int{3, 3, 2, 2}, api.ErrConfig},
	} {
		c.Passes = nil
		for _, n := range x.times {
			c.Passes = append(c.Passes, growing(n))
		}
		checkRight(t, c, x.e)
	}
	c.Passes = [][]api.Rule{growing(32), growing(2), {{}}} // a pass's own error is ahead of the product's
	checkRight(t, c, api.ErrRule)
	c.Passes = [][]api.Rule{{{From: "aaa", To: strings.Repeat("b", 32)}}, growing(3)} // rounded up, 11 and 3
	checkRight(t, c, api.ErrConfig)
	c.Passes = [][]api.Rule{{{From: "aaa", To: strings.Repeat("b", 30)}}, growing(3)}
	checkRight(t, c, api.OK)
	c.Passes = [][]api.Rule{{{From: "aaa", To: strings.Repeat("b", 3)}, growing(2)[0]}, growing(16)}
	checkRight(t, c, api.OK)
}

// P17.2: the tree, and its SIZE, which is even, whatever it is: so above 1000 comes 1002.
func TestRightSplit(t *testing.T) {
	set, two := tree("a"), tree("ab")
	for _, x := range []struct {
		t api.Re
		e api.Errno
	}{
		{api.Re{}, api.ErrTree}, {api.Re{Kind: 5}, api.ErrTree}, {api.Re{Kind: -1}, api.ErrTree}, {api.Re{Kind: api.RCat, Kids: []api.Re{set}}, api.ErrTree}, {api.Re{Kind: api.RAlt}, api.ErrTree}, {api.Re{Kind: api.RCat, Kids: []api.Re{two, set}}, api.ErrTree},
		{api.Re{Kind: api.RSet, Min: 1}, api.ErrTree}, {api.Re{Kind: api.RSet, Kids: []api.Re{set}}, api.ErrTree}, {api.Re{Kind: api.RCat, Set: set.Set}, api.ErrTree}, {within(1, 1, 1), api.ErrTree}, {within(1, 0, 21), api.ErrTree}, {within(1, 3, 2), api.ErrTree}, {within(1, -1, -1), api.ErrTree},
		{api.Re{Kind: api.RRep}, api.ErrTree}, {within(30, 0, 1), api.ErrLong}, {within(29, 0, 1), api.OK}, {api.Re{Kind: api.RAlt, Kids: slices.Repeat([]api.Re{{Kind: api.RCat}}, 512)}, api.ErrLong}, {api.Re{Kind: 9, Kids: make([]api.Re, 600)}, api.ErrLong},
		{api.Re{Kind: api.RSet}, api.OK}, {api.Re{Kind: api.RCat}, api.OK},
		{tree(strings.Repeat("a", 499)), api.OK}, {tree(strings.Repeat("a", 500)), api.ErrConfig}, {tree(strings.Repeat("|", 498)), api.OK}, {tree(strings.Repeat("|", 499)), api.ErrConfig},
		{tree("(a{20}){20}" + strings.Repeat("a", 77)), api.OK}, {tree("(a{20}){20}" + strings.Repeat("a", 78)), api.OK}, {tree("(a{20}){20}" + strings.Repeat("a", 79)), api.ErrConfig},
		{tree("(a{10,20}){20,}" + strings.Repeat("b", 78)), api.OK}, {tree("(a{10,20}){20,}" + strings.Repeat("b", 79)), api.ErrConfig}, {tree("(a{0,20}){3,20}" + strings.Repeat("b", 79)), api.ErrConfig},
		{tree(strings.Repeat("a*", 249)), api.OK}, {tree(strings.Repeat("a*", 250)), api.ErrConfig}, {tree(strings.Repeat("a{0}", 6) + strings.Repeat("b", 487)), api.OK}, {tree(strings.Repeat("a{0}", 6) + strings.Repeat("b", 488)), api.ErrConfig}, {tree(strings.Repeat("(|)", 166) + "a"), api.OK}, {tree(strings.Repeat("(|)", 166) + "aa"), api.ErrConfig},
	} {
		c := plain()
		c.Split = x.t
		checkRight(t, c, x.e)
	}
}

// P17.2: of repetitions within one another the SIZE may have no room in an int.
func TestRightSplitWithin(t *testing.T) {
	for times := range 30 {
		for n := 2; n <= 20; n++ {
			for _, bounds := range [][2]int{{n, n}, {0, n}, {n, -1}} {
				c := api.Config{Split: within(times, bounds[0], bounds[1])}
				checkRight(t, c, meantRight(c))
			}
		}
	}
	c := api.Config{Split: within(29, 20, 20)}
	checkRight(t, c, api.ErrConfig)
	itself := api.Re{Kind: api.RCat, Kids: make([]api.Re, 2)}
	itself.Kids[0], itself.Kids[1] = itself, tree("a")
	if e := config.Right(api.Config{Split: itself}); e != api.ErrLong {
		t.Error("Right of a tree that holds itself =", e)
	}
}

// P17.2: merges.
func TestRightMerges(t *testing.T) {
	for _, x := range []struct {
		l []api.Merge
		e api.Errno
	}{
		{nil, api.OK}, {pairs(1024), api.OK}, {pairs(1025), api.ErrLong}, {make([]api.Merge, 1025), api.ErrLong}, {[]api.Merge{{Left: 97, Right: 257}}, api.ErrMerge}, {[]api.Merge{{Left: 256, Right: 97}}, api.ErrMerge}, {[]api.Merge{{Left: -1, Right: 97}}, api.ErrMerge}, {make([]api.Merge, 2), api.ErrMerge},
		{[]api.Merge{{Left: 0, Right: 0}, {Left: 256, Right: 256}, {Left: 257, Right: 257}, {Left: 258, Right: 258}, {Left: 259, Right: 259}, {Left: 260, Right: 260}}, api.OK},
		{[]api.Merge{{Left: 0, Right: 0}, {Left: 256, Right: 256}, {Left: 257, Right: 257}, {Left: 258, Right: 258}, {Left: 259, Right: 259}, {Left: 260, Right: 260}, {Left: 261, Right: 0}}, api.ErrMerge},
	} {
		c := plain()
		c.Merges = x.l
		checkRight(t, c, x.e)
	}
}

// P17.2: names.
func TestRightNames(t *testing.T) {
	long := strings.Repeat("n", 33)
	for _, x := range []struct {
		l []string
		e api.Errno
	}{
		{numbered(64), api.OK}, {numbered(65), api.ErrConfig}, {numbered(100000), api.ErrConfig}, {append(numbered(62), "x", "x"), api.ErrConfig}, {append(numbered(63), "n0"), api.ErrConfig}, {append(numbered(3), "n1"), api.ErrConfig},
		{append(numbered(2), ""), api.ErrConfig}, {append([]string{""}, numbered(2)...), api.ErrConfig}, {append(numbered(2), "x"), api.OK}, {append(numbered(2), long[:32]), api.OK}, {append(numbered(2), long), api.ErrConfig}, {append([]string{long}, numbered(2)...), api.ErrConfig}, {append(numbered(2), strings.Repeat("x", 1<<20)), api.ErrConfig},
		{append(numbered(2), long[:32], long[:31]), api.OK}, {[]string{"a", "A", " ", "\x00", "\xff", "aa", "a\n"}, api.OK}, {[]string{"a", "b", "a"}, api.ErrConfig},
	} {
		c := plain()
		c.Names = x.l
		checkRight(t, c, x.e)
		c.Before, c.After = nil, nil
		checkRight(t, c, x.e)
	}
}

// P17.2: what stands before and after.
func TestRightFrames(t *testing.T) {
	for _, x := range []struct {
		l []int
		e api.Errno
	}{
		{nil, api.OK}, {[]int{0, 1, 1, 0}, api.OK}, {make([]int, 32), api.OK}, {make([]int, 33), api.ErrConfig}, {make([]int, 100000), api.ErrConfig}, {[]int{2}, api.ErrConfig}, {[]int{-1}, api.ErrConfig}, {[]int{0, 0, 2}, api.ErrConfig}, {[]int{-1, 0, 0}, api.ErrConfig}, {[]int{math.MaxInt}, api.ErrConfig}, {[]int{math.MinInt}, api.ErrConfig}, {[]int{256}, api.ErrConfig},
	} {
		c := plain()
		c.Before = x.l
		checkRight(t, c, x.e)
		c.After = x.l
		checkRight(t, c, x.e)
		c.Before = nil
		checkRight(t, c, x.e)
		c.Names = nil
		if len(x.l) > 0 {
			checkRight(t, c, api.ErrConfig)
		}
	}
	c := plain()
	c.Names = numbered(64)
	c.Before, c.After = []int{63}, []int{0, 63}
	checkRight(t, c, api.OK)
	c.After = []int{64}
	checkRight(t, c, api.ErrConfig)
}

// P17.2: of two errors the one that is listed first is told.
func TestRightTwoErrors(t *testing.T) {
	type harm struct {
		e api.Errno
		f func(c *api.Config)
	}
	harms := []harm{
		{api.ErrConfig, func(c *api.Config) { c.Passes = append(c.Passes, make([][]api.Rule, 5)...) }},
		{api.ErrLong, func(c *api.Config) { c.Passes[0] = numberedRules(65) }},
		{api.ErrRule, func(c *api.Config) { c.Passes = append(c.Passes, []api.Rule{{}}) }},
		{api.ErrConfig, func(c *api.Config) { c.Passes = append(c.Passes, growing(32), growing(2)) }},
		{api.ErrTree, func(c *api.Config) { c.Split = api.Re{} }},
		{api.ErrConfig, func(c *api.Config) { c.Split = within(10, 9, 9) }},
		{api.ErrMerge, func(c *api.Config) { c.Merges = append(c.Merges, api.Merge{Left: -1}) }},
		{api.ErrConfig, func(c *api.Config) { c.Names = append(c.Names, "") }},
		{api.ErrConfig, func(c *api.Config) { c.Before = append(c.Before, -1) }},
		{api.ErrConfig, func(c *api.Config) { c.After = make([]int, 33) }},
	}
	for i := range harms {
		for j := range i + 1 {
			c := plain()
			harms[i].f(&c)
			harms[j].f(&c)
			checkRight(t, c, harms[j].e)
		}
	}
	c := plain()
	c.Split, c.Merges = tree(strings.Repeat("|", 511)), pairs(1025)
	checkRight(t, c, api.ErrLong)
	c.Split = tree("a{0}")
	checkRight(t, c, api.ErrLong)
	c.Names = nil
	checkRight(t, c, api.ErrLong)
}

// P17.2: configurations with something changed, as the chapter's words tell of them.
func TestRightDrawn(t *testing.T) {
	found := map[api.Errno]int{}
	for i := range uint64(3000) {
		d := dice(i)
		c := drawn(d)
		checkRight(t, c, api.OK)
		for range d.IntN(3) {
			switch d.IntN(9) {
			case 0:
				c.Passes = append(c.Passes, growing(1+d.IntN(5)))
			case 1:
				c.Passes = append(c.Passes, []api.Rule{{From: text(d, d.IntN(19)), To: text(d, d.IntN(36))}})
			case 2:
				c.Split = api.Re{Kind: 1 + d.IntN(4), Min: d.IntN(3), Max: d.IntN(4) - 1, Kids: []api.Re{c.Split}}
			case 3:
				c.Split = api.Re{Kind: api.RCat, Kids: slices.Repeat([]api.Re{tree("a?")}, 240+d.IntN(20))}
			case 4:
				c.Merges = append(c.Merges, api.Merge{Left: one(d, -1, 97, 255, 255+len(c.Merges), 256+len(c.Merges)), Right: d.IntN(256)})
			case 5:
				c.Names = append(c.Names, text(d, d.IntN(40)))
			case 6:
				c.Names = append(c.Names, numbered(55+d.IntN(10))...)
			case 7:
				c.Before = append(c.Before, d.IntN(len(c.Names)+2)-1)
			case 8:
				c.After = append(c.After, make([]int, 28+d.IntN(6))...)
			}
		}
		checkRight(t, c, meantRight(c))
		found[meantRight(c)]++
	}
	for _, e := range []api.Errno{api.OK, api.ErrRule, api.ErrTree, api.ErrMerge, api.ErrConfig} {
		if found[e] < 10 {
			t.Errorf("%d times %d was drawn", found[e], e)
		}
	}
}
