package trie_test

import (
	"math"
	"slices"
	"strings"
	"testing"

	"fretsaw/api"
	"fretsaw/trie"
)

func checkRight(t *testing.T, x api.Trie, want bool) {
	t.Helper()
	if got := trie.Right(x); got != want {
		t.Errorf("Right(%s) = %v; want %v", showTrie(x), got, want)
	}
	if meant := meantRight(x); meant != want {
		t.Errorf("Right(%s): meant is %v; want %v", showTrie(x), meant, want)
	}
}

func checkFind(t *testing.T, x api.Trie, s string, want int) {
	t.Helper()
	if got := trie.Find(x, s); got != want {
		t.Errorf("Find(%s, %q) = %d; want %d", showTrie(x), s, got, want)
	}
}

func checkLongest(t *testing.T, x api.Trie, s string, at, want, wantEnd int) {
	t.Helper()
	if got, end := trie.Longest(x, s, at); got != want || end != wantEnd {
		t.Errorf("Longest(%s, %q, %d) = %d, %d; want %d, %d", showTrie(x), s, at, got, end, want, wantEnd)
	}
}

// checkMeant holds Find of a text, and Longest at all of its places and one beyond each end, against the chapter's words.
func checkMeant(t *testing.T, x api.Trie, s string) {
	t.Helper()
	checkFind(t, x, s, meantFind(x, s))
	for at := -1; at <= len(s)+1; at++ {
		number, end := meantLongest(x, s, at)
		checkLongest(t, x, s, at, number, end)
	}
}

// checkNone looks at a trie in which no text has a number.
func checkNone(t *testing.T, x api.Trie) {
	t.Helper()
	for _, s := range []string{"", "a", "b", "ab", "\x00", "\xff"} {
		checkFind(t, x, s, -1)
		for at := -1; at <= len(s)+1; at++ {
			checkLongest(t, x, s, at, -1, -1)
		}
	}
}

// P16.1, P16.2: the chapter's examples.
func TestExamples(t *testing.T) {
	x, e := trie.Build([]string{"a", "abc"})
	if e != api.OK {
		t.Fatal(e)
	}
	checkRight(t, x, true)
	checkFind(t, x, "a", 0)
	checkFind(t, x, "ab", -1)
	checkLongest(t, x, "xabcd", 1, 1, 4)
	checkLongest(t, x, "xab", 1, 0, 2)
	checkFails(t, []string{"a", "a"}, api.ErrTwice)
	x, e = trie.Build(nil)
	if e != api.OK {
		t.Fatal(e)
	}
	checkFind(t, x, "", -1)
}

// P16.1: no state, one, as many as may be, and one more.
func TestRightStates(t *testing.T) {
	for _, c := range []struct {
		many int
		want bool
	}{{0, false}, {1, true}, {2, true}, {1000, true}, {mostStates - 1, true}, {mostStates, true}, {mostStates + 1, false}, {2 * mostStates, false}} {
		x := hollow(c.many)
		checkRight(t, x, c.want)
		want, end := 7, 0
		if !c.want {
			want, end = -1, -1
		}
		checkFind(t, x, "", want)
		checkLongest(t, x, "ab", 0, want, end)
		if c.want {
			checkLongest(t, x, "ab", 2, want, 2)
		}
	}
	checkRight(t, api.Trie{}, false)
	checkNone(t, api.Trie{})
	checkNone(t, api.Trie{Base: []int{}, Check: []int{}, Word: []int{}})
}

// P16.1: lists that have not one length, each of the three being the longer or the shorter one.
func TestRightLengths(t *testing.T) {
	for _, many := range []int{0, 1, 2, 3, mostStates} {
		for _, by := range []int{-1, 1} {
			if many+by < 0 {
				continue
			}
			x, y := hollow(many), hollow(many+by)
			for _, z := range []api.Trie{
				{Base: y.Base, Check: x.Check, Word: x.Word},
				{Base: x.Base, Check: y.Check, Word: x.Word},
				{Base: x.Base, Check: x.Check, Word: y.Word},
			} {
				checkRight(t, z, false)
				checkNone(t, z)
			}
		}
	}
	x := hollow(3)
	checkNone(t, api.Trie{Base: x.Base})
	checkNone(t, api.Trie{Check: x.Check})
	checkNone(t, api.Trie{Word: x.Word})
	checkNone(t, api.Trie{Base: x.Base, Check: x.Check})
	checkNone(t, api.Trie{Base: x.Base, Word: x.Word})
	checkNone(t, api.Trie{Check: x.Check, Word: x.Word})
}

// P16.1: what Right does not ask for: numbers of any kind in the lists.
func TestRightAnyNumbers(t *testing.T) {
	for _, n := range []int{math.MinInt, math.MinInt + 1, -1, 0, 1, mostStates, math.MaxInt - 1, math.MaxInt} {
		x := hollow(3)
		for i := range 3 {
			x.Base[i], x.Check[i], x.Word[i] = n, n, n
		}
		checkRight(t, x, true)
		for _, s := range []string{"", "a", "\x00", "\xff", "\x00\x00", "\xff\xff", "ab"} {
			checkMeant(t, x, s)
		}
	}
}

// twoStates is a trie in which one goes from 0 to 1 by the byte 'a', and 1 has the number 5.
func twoStates() api.Trie {
	return api.Trie{Base: []int{-'a', 0}, Check: []int{-1, 0}, Word: []int{-1, 5}}
}

// P16.1: a Base that leads below 0, to 0, to the last state, beyond it, and nowhere at all.
func TestBase(t *testing.T) {
	checkFind(t, twoStates(), "a", 5)
	checkLongest(t, twoStates(), "ba", 1, 5, 2)
	for _, base := range []int{math.MinInt, math.MinInt + 1, math.MinInt + 'a', -mostStates - 1, -mostStates, -257, -256, -'a' - 2, -'a' - 1, -'a' + 1, -1, 0, 1, mostStates, mostStates + 1, math.MaxInt - 'a' - 1, math.MaxInt - 'a', math.MaxInt - 1, math.MaxInt} {
		x := twoStates()
		x.Base[0] = base
		checkFind(t, x, "a", -1)
		checkFind(t, x, "", -1)
		checkLongest(t, x, "a", 0, -1, -1)
		for b := range 256 {
			checkMeant(t, x, string([]byte{byte(b)}))
		}
		x.Check[0], x.Word[0] = 0, 3 // by 0 one goes nowhere, even if it were its own kid
		checkFind(t, x, "", 3)
		checkFind(t, x, "a", -1)
		checkLongest(t, x, "a", 0, 3, 0)
		for b := range 256 {
			checkMeant(t, x, string([]byte{byte(b)}))
		}
	}
}

// P16.1: the same in the greatest trie, in which Bases of 399000 and more lead to states, and 400000 to none.
func TestBaseFar(t *testing.T) {
	x := hollow(mostStates)
	last := mostStates - 1
	for _, b := range []byte{0, 'a', 255} {
		s := string([]byte{b})
		for _, to := range []int{1, 2, 256, 257, last - 1, last} {
			x.Base[0], x.Check[to], x.Word[to] = to-1-int(b), 0, to
			checkFind(t, x, s, to)
			checkLongest(t, x, "x"+s+s, 1, to, 2)
			x.Check[to] = -1
			checkFind(t, x, s, -1)
		}
		for _, base := range []int{mostStates - int(b) - 1, mostStates - 1, mostStates, mostStates + 1, -mostStates, -mostStates - 1, math.MinInt, math.MaxInt} {
			x.Base[0], x.Check[last] = base, 0
			checkFind(t, x, s, -1)
			checkLongest(t, x, s, 0, 7, 0)
		}
		x.Check[last] = -1
	}
}

// P16.1: a state's own Base counts, not that of 0; each of them may lead nowhere.
func TestBaseOfEachState(t *testing.T) {
	chain := api.Trie{Base: []int{-'a', 1 - 'b', 2 - 'c', 0}, Check: []int{-1, 0, 1, 2}, Word: []int{0, -1, -1, 3}}
	checkFind(t, chain, "abc", 3)
	for state := range 3 {
		for _, base := range []int{math.MinInt, -mostStates - 1, -mostStates, mostStates, mostStates + 1, math.MaxInt} {
			x := copied(chain)
			x.Base[state] = base
			checkFind(t, x, "abc", -1)
			checkLongest(t, x, "abc", 0, 0, 0)
			checkMeant(t, x, "abc")
		}
	}
}

// P16.1: a Check of another state, of 0, below 0, and beyond all states.
func TestCheck(t *testing.T) {
	for _, check := range []int{1, 2, -1, -2, mostStates, math.MinInt, math.MaxInt} {
		x := twoStates()
		x.Check[1] = check
		checkFind(t, x, "a", -1)
		checkLongest(t, x, "a", 0, -1, -1)
		checkMeant(t, x, "aa")
	}
	round := api.Trie{Base: []int{-'a', -'a'}, Check: []int{1, 1}, Word: []int{4, 5}}
	checkFind(t, round, "a", -1) // Check of 1 is 1, and not 0
	round.Check[1] = 0
	checkFind(t, round, "a", 5)
	checkFind(t, round, "aa", -1)
	round = api.Trie{Base: []int{-'a', 1 - 'a', 1 - 'a'}, Check: []int{0, 0, 2}, Word: []int{4, 5, 6}}
	checkFind(t, round, "aa", -1) // 2 is reached from 2 alone
	round.Check[2] = 1
	checkFind(t, round, "aa", 6)
}

// P16.1: a state that one reaches by its parent alone, though it is another state's neighbour.
func TestCheckApart(t *testing.T) {
	x := api.Trie{Base: []int{-'a', 2 - 'a', 2 - 'a', 0, 0}, Check: []int{-1, 0, 0, 1, 2}, Word: []int{-1, 1, 2, 3, 4}}
	for s, want := range map[string]int{"a": 1, "b": 2, "aa": 3, "ab": -1, "ba": -1, "bb": 4, "": -1, "aaa": -1, "c": -1} {
		checkFind(t, x, s, want)
		checkMeant(t, x, s)
	}
}

// P16.1: Words of 0, below 0, and the greatest.
func TestWord(t *testing.T) {
	for _, c := range []struct{ word, want int }{{0, 0}, {1, 1}, {-1, -1}, {-2, -1}, {math.MinInt, -1}, {math.MaxInt, math.MaxInt}, {mostStates, mostStates}} {
		x := twoStates()
		x.Word[1] = c.word
		checkFind(t, x, "a", c.want)
		end := 1
		if c.want < 0 {
			end = -1
		}
		checkLongest(t, x, "ab", 0, c.want, end)
		x = twoStates()
		x.Word[0] = c.word
		checkFind(t, x, "", c.want)
		end = 2
		if c.want < 0 {
			end = -1
		}
		checkLongest(t, x, "xb", 2, c.want, end)
	}
}

// P16.1: Longest: a shorter text that has a number, where longer ones have none; the longest of several; the empty one.
func TestLongest(t *testing.T) {
	x := built("a", "abc", "abcdef", "b")
	checkLongest(t, x, "abcdef", 0, 2, 6)
	checkLongest(t, x, "abcdefg", 0, 2, 6)
	checkLongest(t, x, "abcdex", 0, 1, 3)
	checkLongest(t, x, "abcde", 0, 1, 3)
	checkLongest(t, x, "abcd", 0, 1, 3)
	checkLongest(t, x, "abd", 0, 0, 1)
	checkLongest(t, x, "ab", 0, 0, 1)
	checkLongest(t, x, "ab", 1, 3, 2)
	checkLongest(t, x, "ab", 2, -1, -1)
	checkLongest(t, x, "xab", 0, -1, -1)
	checkLongest(t, x, "", 0, -1, -1)
	x = built("abc", "", "a")
	checkLongest(t, x, "", 0, 1, 0)
	checkLongest(t, x, "xyz", 0, 1, 0)
	checkLongest(t, x, "xyz", 2, 1, 2)
	checkLongest(t, x, "xyz", 3, 1, 3)
	checkLongest(t, x, "zabc", 1, 0, 4)
	checkLongest(t, x, "zab", 1, 2, 2)
}

// P16.1: Longest at places that there are not.
func TestLongestPlaces(t *testing.T) {
	x := built("", "a")
	for _, s := range []string{"", "a", "aa", strings.Repeat("a", 100)} {
		for _, at := range []int{math.MinInt, -mostStates, -2, -1, len(s) + 1, len(s) + 2, mostStates, math.MaxInt} {
			checkLongest(t, x, s, at, -1, -1)
		}
		checkLongest(t, x, s, len(s), 0, len(s))
		if s != "" {
			checkLongest(t, x, s, 0, 1, 1)
			checkLongest(t, x, s, len(s)-1, 1, len(s))
		}
	}
}

// P16.1: no more than the text counts, even where the trie has more, and where what stands behind it in memory would go on.
func TestTextEnds(t *testing.T) {
	x := built("ab", "abc")
	s := "xabcd"
	checkFind(t, x, s[1:3], 0)
	checkLongest(t, x, s[:3], 1, 0, 3)
	checkLongest(t, x, s[:2], 1, -1, -1)
}

// P1: long texts, at tries of which some states lead to one another, or to themselves, and are never reached.
func TestRound(t *testing.T) {
	for _, c := range []struct {
		x           api.Trie
		number, end int
	}{
		{api.Trie{Base: []int{-'a', 1 - 'a', 1 - 'a'}, Check: []int{-1, 0, 2}, Word: []int{-1, 8, 9}}, 8, 1},
		{api.Trie{Base: []int{-'a', 1 - 'a', -'a'}, Check: []int{-1, 2, 1}, Word: []int{7, 8, 9}}, 7, 0},
		{api.Trie{Base: []int{-'a', 1 - 'a', -'a'}, Check: []int{2, 0, 1}, Word: []int{7, 8, 9}}, 9, 2},
		{api.Trie{Base: []int{-1 - 'a', -'a'}, Check: []int{0, 1}, Word: []int{3, 4}}, 3, 0},
	} {
		checkMeant(t, c.x, "aaaa")
		many := strings.Repeat("a", 1<<20)
		if number, end := trie.Longest(c.x, many, 0); number != c.number || end != c.end {
			t.Errorf("Longest(%s, as many, 0) = %d, %d; want %d, %d", showTrie(c.x), number, end, c.number, c.end)
		}
		if number := trie.Find(c.x, many); number != -1 {
			t.Errorf("Find(%s, as many) = %d", showTrie(c.x), number)
		}
	}
}

// P16.1, P1: many drawn tries, which may be or not, at all short texts.
func TestDrawnTries(t *testing.T) {
	texts := []string{"", "l", "\x00", "\xff"}
	for _, a := range []string{"a", "b", "c"} {
		texts = append(texts, a)
		for _, b := range []string{"a", "b", "c"} {
			texts = append(texts, a+b, a+b+"a", a+b+"b", a+b+"c", a+b+a+b, a+b+b+a)
		}
	}
	reached, may := 0, 0
	for n := range uint64(4000) {
		x := anyTrie(dice(n))
		checkRight(t, x, meantRight(x))
		if trie.Right(x) {
			may++
		}
		for _, s := range texts {
			checkMeant(t, x, s)
			if len(s) > 1 && trie.Find(x, s) >= 0 {
				reached++
			}
		}
	}
	if reached < 400 || may < 1000 || may > 3900 {
		t.Errorf("%d texts have a number, %d tries may be", reached, may)
	}
}

// P16.1: tries that were made, and then changed at one place.
func TestChangedTries(t *testing.T) {
	d := dice(3)
	words := drawn(d, "abc", 4, 30)
	x := built(words...)
	for range 400 {
		y := copied(x)
		l := [][]int{y.Base, y.Check, y.Word}[d.IntN(3)]
		at := d.IntN(len(l))
		l[at] = []int{-1, 0, l[at] + 1, l[at] - 1, at, d.IntN(len(l)), -d.IntN(300), mostStates, -mostStates, math.MinInt, math.MaxInt}[d.IntN(11)]
		for range 10 {
			checkMeant(t, y, text(d, "abc", d.IntN(6)))
			checkMeant(t, y, words[d.IntN(len(words))])
		}
	}
}

// Arguments are not changed.
func TestTrieStays(t *testing.T) {
	for n := range uint64(300) {
		x := anyTrie(dice(n))
		want := copied(x)
		trie.Right(x)
		trie.Find(x, "aba")
		trie.Longest(x, "aba", 1)
		if !same(x, want) {
			t.Errorf("%s was changed from %s", showTrie(x), showTrie(want))
		}
	}
}

// FuzzTrie takes three numbers of each state out of a text.
func FuzzTrie(f *testing.F) {
	f.Add("\x81\x80\x01\x80\x00\x05", "a", 0, 97)
	f.Add("", "", -1, 0)
	f.Add("\x00\x00\x00", "", 0, 1<<40)
	f.Fuzz(func(t *testing.T, numbers, s string, at, by int) {
		var x api.Trie
		for state := range slices.Chunk([]byte(numbers[:min(len(numbers), 300)]), 3) {
			x.Base = append(x.Base, int(int8(state[0]))-by)
			if len(state) > 1 {
				x.Check = append(x.Check, int(int8(state[1])))
			}
			if len(state) > 2 {
				x.Word = append(x.Word, int(int8(state[2])))
			}
		}
		checkRight(t, x, meantRight(x))
		s = s[:min(len(s), 8)]
		checkMeant(t, x, s)
		number, end := -1, -1
		if at <= len(s) {
			number, end = meantLongest(x, s, at)
		}
		checkLongest(t, x, s, at, number, end)
	})
}
