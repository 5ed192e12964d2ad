package dfa_test

import (
	"math"
	"slices"
	"strings"
	"testing"

	"fretsaw/api"
	"fretsaw/dfa"
	"fretsaw/nfa"
	"fretsaw/regex"
)

// nfa is one that may be.
func (d *dice) nfa(states, edges int) api.Nfa {
	n := api.Nfa{States: 1 + d.below(states)}
	n.Start, n.End = d.below(n.States), d.below(n.States)
	for range d.below(edges + 1) {
		e := api.Edge{From: d.below(n.States), To: d.below(n.States), Free: d.below(4) == 0}
		if e.Set = among(d.text("abc", 3)); d.below(8) == 0 {
			e.Set = all()
		}
		n.Edges = append(n.Edges, e)
	}
	return n
}

// texts are all of up to so many bytes.
func texts(bytes string, room int) []string {
	out := []string{""}
	for i := 0; i < len(out); i++ {
		for b := range len(bytes) {
			if len(out[i]) < room {
				out = append(out, out[i]+bytes[b:b+1])
			}
		}
	}
	return out
}

// parsed is the nfa of an expression's text.
func parsed(t *testing.T, s string) api.Nfa {
	t.Helper()
	tree, e, at := regex.Parse(s)
	if e != api.OK {
		t.Fatalf("Parse(%q) = %d, %d", s, e, at)
	}
	n, e := nfa.Build(tree)
	if e != api.OK {
		t.Fatalf("nfa.Build of %q: %d", s, e)
	}
	return n
}

// built is the dfa of an nfa that must have one: P8.3, too.
func built(t *testing.T, n api.Nfa) api.Dfa {
	t.Helper()
	d, e := dfa.Build(n)
	if e != api.OK || !meantRight(d) || !dfa.Right(d) {
		t.Errorf("Build(%s) = %s, %d", showNfa(n), showDfa(d), e)
	} else if got := meantReached(d); got != len(d.Next) {
		t.Errorf("Build(%s): %d states, %d of them reached", showNfa(n), len(d.Next), got)
	}
	return d
}

func checkNone(t *testing.T, n api.Nfa, want api.Errno) {
	t.Helper()
	d, e := dfa.Build(n)
	if e != want || len(d.Next) != 0 || len(d.Accept) != 0 || d.Class != [256]uint8{} {
		t.Errorf("Build(%s) = %s, %d; want %d", showNfa(n), showDfa(d), e, want)
	}
}

// checkBuild asks that the dfa of an nfa takes what the nfa takes, of texts, from each of their places on.
func checkBuild(t *testing.T, n api.Nfa, of ...string) {
	t.Helper()
	d := built(t, n)
	for _, s := range of {
		for at := range len(s) + 1 {
			if got, want := dfa.Ends(d, s, at), nfa.Ends(n, s, at); !slices.Equal(got, want) {
				t.Errorf("Ends(Build(%s), %q, %d) = %v; want %v", showNfa(n), s, at, got, want)
			}
		}
	}
}

// checkEither asks of any nfa that it is built, or ErrStates, by how many sets of its states are reached.
func checkEither(t *testing.T, n api.Nfa, of ...string) (sets int) {
	t.Helper()
	if sets = meantSets(n); sets > 400 {
		checkNone(t, n, api.ErrStates)
	} else {
		checkBuild(t, n, of...)
	}
	return sets
}

func same(a, b api.Dfa) bool {
	return a.Class == b.Class && slices.Equal(a.Accept, b.Accept) && slices.EqualFunc(a.Next, b.Next, slices.Equal[[]int])
}

// chain takes states - 1 bytes `a`: a set for each of its states is reached, and the empty one.
func chain(states int) api.Nfa {
	n := api.Nfa{States: states, End: states - 1}
	for i := range states - 1 {
		n.Edges = append(n.Edges, over("a", i, i+1))
	}
	return n
}

// ring goes round over any byte, so that the empty set is not reached.
func ring(states int) api.Nfa {
	n := api.Nfa{States: states, End: states - 1}
	for i := range states {
		n.Edges = append(n.Edges, overAll(i, (i+1)%states))
	}
	return n
}

// The chapter's own examples.
func TestExamples(t *testing.T) {
	checkEnds(t, built(t, parsed(t, "a*b?")), "aabx", 0, 0, 1, 2, 3)
	checkEnds(t, built(t, parsed(t, "a*b?")), "aabx", 1, 1, 2, 3)
	checkNone(t, parsed(t, "(a|b)*a(a|b){9}"), api.ErrStates)
	checkEnds(t, built(t, parsed(t, "ab")), "aab", 0)
	checkEnds(t, built(t, parsed(t, "ab")), "aab", 1, 3)
}

// P8.2: an nfa that may not be is ErrArg, even if what is reached of it would be too much.
func TestBuildWrong(t *testing.T) {
	for _, n := range []api.Nfa{
		{}, {States: -1}, {States: 2001}, {States: math.MaxInt}, {States: math.MinInt},
		{States: 1, Start: 1}, {States: 1, Start: -1}, {States: 1, End: 1}, {States: 1, End: -1},
		{States: 2000, End: 2000}, {States: 2000, Start: math.MaxInt}, {States: 2000, End: math.MinInt},
		{States: 2, Edges: []api.Edge{free(0, 2)}}, {States: 2, Edges: []api.Edge{free(2, 0)}},
		{States: 2, Edges: []api.Edge{over("a", -1, 0)}}, {States: 2, Edges: []api.Edge{over("a", 0, 1), over("", 0, -1)}},
		{States: 2, Edges: []api.Edge{over("a", 0, 1), overAll(1, math.MaxInt)}},
		{States: 1, Edges: make([]api.Edge, 16001)},
	} {
		checkNone(t, n, api.ErrArg)
	}
	long := chain(401)
	long.Edges = append(long.Edges, free(401, 0))
	checkNone(t, long, api.ErrArg)
	checkNone(t, chain(2001), api.ErrArg)
	checkBuild(t, api.Nfa{States: 1, Edges: make([]api.Edge, 16000)}, "ab")
}

// P8.2: no edge at all: the empty text, or nothing.
func TestBuildNoEdge(t *testing.T) {
	for _, states := range []int{1, 2, 2000} {
		n := api.Nfa{States: states, Start: states - 1, End: states - 1}
		checkBuild(t, n, "", "a", "ab\xff")
		checkEnds(t, built(t, n), "ab", 1, 1)
		if n.End = 0; states > 1 {
			checkBuild(t, n, "", "a", "ab\xff")
			checkEnds(t, built(t, n), "ab", 1)
		}
	}
}

// P8.2: Free edges, in rows and rings, to oneself, twice, and with a Set that is not looked at.
func TestBuildFree(t *testing.T) {
	two := api.Nfa{States: 2, End: 1, Edges: []api.Edge{free(0, 1), free(1, 0), over("a", 1, 1)}}
	checkBuild(t, two, texts("ab", 3)...)
	checkEnds(t, built(t, two), "aab", 0, 0, 1, 2)
	own := api.Nfa{States: 2, End: 1, Edges: []api.Edge{free(0, 0), free(1, 1), over("a", 0, 1), free(0, 0)}}
	checkBuild(t, own, texts("ab", 3)...)
	checkEnds(t, built(t, own), "aab", 0, 1)
	with := api.Nfa{States: 2, End: 1, Edges: []api.Edge{{From: 0, To: 1, Free: true, Set: among("a")}}}
	checkBuild(t, with, texts("ab", 3)...)
	checkEnds(t, built(t, with), "aa", 0, 0)
	for _, states := range []int{2, 3, 7, 8, 9, 400, 401, 2000} {
		for _, at := range []int{0, 1, states / 2, states - 1} {
			up := api.Nfa{States: states, Start: at, End: (at + states - 1) % states, Edges: []api.Edge{over("ab", at, at), over("b", 0, states-1)}}
			down := up
			down.Edges = slices.Clone(up.Edges)
			for i := range states {
				up.Edges = append(up.Edges, free(i, (i+1)%states))
				down.Edges = append(down.Edges, free((i+1)%states, i))
			}
			checkBuild(t, up, "", "ab", "abcab")
			checkBuild(t, down, "", "ab", "abcab")
		}
	}
}

// P8.2: what is behind a byte is what Free edges lead to from there, however these stand.
func TestBuildFreeBehind(t *testing.T) {
	for _, order := range [][]int{{1, 2, 3, 4, 5}, {5, 4, 3, 2, 1}, {3, 1, 5, 2, 4}, {2, 5, 1, 4, 3}} {
		n := api.Nfa{States: 7, End: 6, Edges: []api.Edge{over("ab", 0, order[0]), over("c", 0, order[2]), over("x", order[4], 6), over("b", order[1], order[3])}}
		for i := range 4 {
			n.Edges = append(n.Edges, free(order[i], order[i+1]))
		}
		checkBuild(t, n, texts("abcx", 4)...)
		checkEnds(t, built(t, n), "ax", 0, 2)
		checkEnds(t, built(t, n), "cx", 0, 2)
		checkEnds(t, built(t, n), "abx", 0, 3)
		checkEnds(t, built(t, n), "cbx", 0)
		n.Edges = append(n.Edges, free(order[4], order[0]))
		checkBuild(t, n, texts("abcx", 4)...)
		checkEnds(t, built(t, n), "cbx", 0, 3)
	}
}

// P8.2: edges of no byte, of one and of all, and each byte by itself.
func TestBuildBytes(t *testing.T) {
	never := api.Nfa{States: 2, End: 1, Edges: []api.Edge{over("", 0, 1), over("", 0, 0), over("", 1, 1)}}
	checkBuild(t, never, texts("ab", 3)...)
	checkEnds(t, built(t, never), "ab", 0)
	each := api.Nfa{States: 3, End: 2, Edges: []api.Edge{overAll(0, 1), overAll(1, 2), overAll(2, 2)}}
	checkBuild(t, each, "", "a", "\x00\xff", "\x00\x7f\x80\xff", "\xc3\xa9\xed\xa0\x80")
	checkEnds(t, built(t, each), "\x00\xff\x80", 0, 2, 3)
	for b := range 256 {
		one := string([]byte{byte(b)})
		other := string([]byte{byte(b + 1)})
		n := api.Nfa{States: 2, End: 1, Edges: []api.Edge{over(one, 0, 1)}}
		checkBuild(t, n, one, other, one+one, other+one)
		n.Edges[0].Set = such(func(x int) bool { return x != b })
		checkBuild(t, n, one, other, one+one, other+one)
	}
}

// P8.2: as many classes as there are bytes.
func TestBuildClasses(t *testing.T) {
	n := api.Nfa{States: 257, Start: 256, End: 0}
	for b := range 256 {
		n.Edges = append(n.Edges, over(string([]byte{byte(b)}), 256, b), over(string([]byte{byte(b)}), b, (b*7+3)%256))
	}
	var every []string
	for b := range 256 {
		every = append(every, string([]byte{byte(b)}), string([]byte{byte(b), byte(b), byte(b)}), string([]byte{byte(b), byte(255 - b)}))
	}
	checkBuild(t, n, every...)
	if d := built(t, n); len(d.Next[0]) != 256 {
		t.Error("classes:", len(d.Next[0]))
	}
}

// P8.2: End is Start.
func TestBuildEndIsStart(t *testing.T) {
	for _, edges := range [][]api.Edge{
		{over("a", 0, 0)},
		{over("a", 0, 1), over("b", 1, 0)},
		{over("a", 0, 1), free(1, 0)},
		{over("a", 1, 0), over("b", 0, 1), free(0, 2), over("c", 2, 2)},
	} {
		for start := range 3 {
			checkBuild(t, api.Nfa{States: 3, Start: start, End: start, Edges: edges}, texts("abc", 4)...)
		}
	}
}

// P8.2: many, at each place of many texts.
func TestBuildMany(t *testing.T) {
	short := append(texts("abc", 3), "abcabcab", "cccbbbaaa", "a\x00b\xffc", "aabx")
	for i := range 1500 {
		d := &dice{n: uint64(i)}
		checkEither(t, d.nfa(7, 14), short...)
	}
	for i := range 300 {
		d := &dice{n: uint64(i) + 1<<32}
		checkEither(t, d.nfa(5, 40), short...)
	}
}

// P8.2: with so many states that some reach more sets than there may be, and some do not; and some just about as many.
func TestBuildBounds(t *testing.T) {
	few, many, near := 0, 0, 0
	for i := range 200 {
		d := &dice{n: uint64(i) + 1<<33}
		n := api.Nfa{States: 8 + d.below(3)}
		for i := range n.States {
			n.Edges = append(n.Edges, over("a", i, (i+1)%n.States))
			if d.below(6) > 0 {
				n.Edges = append(n.Edges, over("b", i, i))
			}
		}
		for range 1 + d.below(3) {
			n.Edges = append(n.Edges, over([]string{"a", "b", "ab"}[d.below(3)], d.below(n.States), d.below(n.States)))
		}
		n.End = d.below(n.States)
		sets := checkEither(t, n, "abbabaabab", "bbbbabba", "aabbaab")
		switch {
		case sets > 400:
			many++
		case sets > 256:
			near++
		default:
			few++
		}
	}
	if few == 0 || many == 0 || near == 0 {
		t.Error("these show too little:", few, near, many)
	}
}

// P8.2: expressions of all kinds.
func TestBuildExpressions(t *testing.T) {
	short := append(texts("abc", 5), "abcd", "aabx", "x y", "it's 12 o'clock", "\xff\x00", "abababababab", strings.Repeat("abc", 12))
	for _, s := range []string{
		"a", "[abc]", "[^a]", ".", "a*", "a+", "a?", "a*b?", "(a|ab)(c|bcd)", "a{3}", "a{2,}", "a{0,3}", "(a|b)*abb", "(a*b*)*", "((a|b)*c|a){2,3}",
		"[a-z]+|[0-9]{1,2}", "a*b", "(a|b)*a(a|b){3}", "(a|b)*a(a|b){7}", "((a?)*b?)*", "(ab|a)(bc|c)?", "'s| ?[a-z]+| ?[0-9]+| +", "(a{0,3}b{0,3}){0,4}", "()", "a()b|()",
	} {
		checkBuild(t, parsed(t, s), short...)
	}
	for n := range 12 {
		checkEither(t, parsed(t, "(a|b)*a(a|b){"+string([]byte{'0' + byte(n/10), '0' + byte(n%10)})+"}"), short[:200]...)
	}
}

// P8.2: just 400 sets are reached; the empty set does not count, whether it is reached or not.
func TestBuildFull(t *testing.T) {
	a := strings.Repeat("a", 500)
	for _, states := range []int{1, 2, 399, 400} {
		checkBuild(t, chain(states), a[:10], a[:states+3])
		checkBuild(t, ring(states), a[:10], a[:states+3])
		checkEnds(t, built(t, chain(states)), a, 0, states-1)
		if len(built(t, ring(states)).Next) != states {
			t.Error("a ring's states:", states)
		}
	}
	for _, states := range []int{401, 402, 500, 2000} {
		checkNone(t, chain(states), api.ErrStates)
		checkNone(t, ring(states), api.ErrStates)
	}
	// What is not reached is not counted, nor are edges of no byte gone along.
	loose := chain(400)
	loose.States = 2000
	for i := 400; i < 1999; i++ {
		loose.Edges = append(loose.Edges, over("a", i, i+1), over("b", i, i-400), over("", i-400, i), free(i, 5))
	}
	checkBuild(t, loose, a[:10], a[:402], "ab")
	loose.Edges = append(loose.Edges, over("a", 399, 1000))
	checkNone(t, loose, api.ErrStates)
	// One byte alone leads to one set more.
	more := chain(400)
	more.States = 401
	checkBuild(t, more, a[:402])
	more.Edges = append(more.Edges, over("\xff", 399, 400))
	checkNone(t, more, api.ErrStates)
}

// P8.2: sets of several states are counted as sets.
func TestBuildFullSets(t *testing.T) {
	// Start, and then the places in two rings at one time: as many as the least number that both lengths divide.
	rings := func(one, two int) api.Nfa {
		n := api.Nfa{States: 1 + one + two, End: 1, Edges: []api.Edge{free(0, 1), free(0, 1+one)}}
		for i := range one {
			n.Edges = append(n.Edges, overAll(1+i, 1+(i+1)%one))
		}
		for i := range two {
			n.Edges = append(n.Edges, overAll(1+one+i, 1+one+(i+1)%two))
		}
		return n
	}
	s := strings.Repeat("ab", 250)
	checkBuild(t, rings(3, 133), s, s[:7])
	checkBuild(t, rings(7, 57), s, s[:7])
	checkBuild(t, rings(19, 21), s, s[:7])
	checkNone(t, rings(16, 25), api.ErrStates)
	checkNone(t, rings(1, 400), api.ErrStates)
	checkBuild(t, rings(20, 20), s[:70])
	// Two sets are the same, if their states are, however one came there.
	both := chain(400)
	for i := range 399 {
		both.Edges = append(both.Edges, over("b", i, i+1), over("bc", i, i+1))
	}
	checkBuild(t, both, s[:420], "abcabc", "abxab")
	// A Free edge ahead makes no set more; the states behind it are with the one ahead of it.
	hop := chain(800)
	for i := range hop.Edges {
		if hop.Edges[i].Free = i%2 == 0; hop.Edges[i].Free {
			hop.Edges[i].Set = api.Set{}
		}
	}
	checkBuild(t, hop, strings.Repeat("a", 402))
	hop.States, hop.Edges = 801, append(hop.Edges, over("a", 799, 800))
	checkNone(t, hop, api.ErrStates)
}

// P8.2: sets count even where nothing is taken from them, and where a smaller dfa would take the same.
func TestBuildDead(t *testing.T) {
	dead := chain(400)
	dead.End = 0
	checkBuild(t, dead, "", "aaa")
	dead.States, dead.Edges = 401, append(dead.Edges, over("a", 399, 400))
	checkNone(t, dead, api.ErrStates)
	alike := ring(400)
	alike.States, alike.End = 402, 401
	alike.Edges = append(alike.Edges, over("", 400, 401))
	checkBuild(t, alike, "", "abc")
	checkEnds(t, built(t, alike), "abc", 0)
	alike.Edges[399] = overAll(399, 400)
	checkNone(t, alike, api.ErrStates)
}

// P1: the greatest nfas that may be are done with soon.
func TestBuildGreat(t *testing.T) {
	for _, thin := range []bool{false, true} {
		d := &dice{n: 77}
		n := api.Nfa{States: 2000, End: 1999}
		for i := range 399 {
			n.Edges = append(n.Edges, overAll(i, (i+1)%399))
		}
		for i := 399; i < 1999; i++ {
			n.Edges = append(n.Edges, free(i+1, i))
		}
		n.Edges = append(n.Edges, free(0, 1999), overAll(399, 1999))
		for len(n.Edges) < 16000 {
			e := api.Edge{From: 399 + d.below(1601), To: 399 + d.below(1601)}
			if e.Set.S[d.below(4)] = spread(d.at); thin {
				e.Set = over(string([]byte{byte(d.below(256))}), 0, 0).Set
			}
			n.Edges = append(n.Edges, e)
		}
		s := "abc\x00\xff" + strings.Repeat("xyz", 10)
		d2, e := dfa.Build(n)
		if e != api.OK || len(d2.Next) != 399 || len(d2.Next[0]) != 256 {
			t.Fatal(e, showDfa(d2))
		}
		for at := range len(s) + 1 {
			if got, want := dfa.Ends(d2, s, at), nfa.Ends(n, s, at); !slices.Equal(got, want) {
				t.Error(at, got, want)
			}
		}
	}
	d := &dice{n: 78}
	n := api.Nfa{States: 2000, End: 1999}
	for len(n.Edges) < 16000 {
		n.Edges = append(n.Edges, over(string([]byte{byte(d.below(256))}), d.below(2000), d.below(2000)))
	}
	checkNone(t, n, api.ErrStates)
}

// R4: no two rows share memory, nor do two answers, nor is the nfa changed.
func TestBuildNewMemory(t *testing.T) {
	n := parsed(t, "a*(b|c){2,3}|[a-z]+")
	edges := slices.Clone(n.Edges)
	one, two := built(t, n), built(t, n)
	if !same(one, two) {
		t.Error("two dfas of one nfa")
	}
	for i, row := range two.Next {
		_ = append(row, -9)
		for j := range row {
			row[j] = -9 - i
		}
		two.Accept[i] = !two.Accept[i]
	}
	for i, row := range two.Next {
		for _, next := range row {
			if next != -9-i {
				t.Error("two rows share memory")
			}
		}
	}
	if !same(one, built(t, n)) || !slices.Equal(edges, n.Edges) {
		t.Error("two answers share memory, or the nfa was changed")
	}
}

// R1: the same nfa, the same dfa, each time.
func TestBuildSame(t *testing.T) {
	for i := range 200 {
		n := (&dice{n: uint64(i) + 1<<34}).nfa(8, 20)
		want := built(t, n)
		for range 5 {
			if !same(built(t, n), want) {
				t.Errorf("Build(%s) is another one now", showNfa(n))
			}
		}
	}
}

func FuzzBuild(f *testing.F) {
	f.Add("a*b?", "aabx")
	f.Add("(a|ab)(c|bcd)", "abcd")
	f.Add("(a|b)*a(a|b){9}", "")
	f.Add("(()*|a{0,3}){2,}", "aaaa")
	f.Fuzz(func(t *testing.T, text, s string) {
		tree, e, _ := regex.Parse(text)
		if e != api.OK {
			return
		}
		n, e := nfa.Build(tree)
		if e != api.OK || len(n.Edges) > 60 {
			return
		}
		checkEither(t, n, s[:min(len(s), 20)])
	})
}

func FuzzBuildAny(f *testing.F) {
	f.Add(uint64(1), uint8(3), uint8(9), "abc")
	f.Fuzz(func(t *testing.T, seed uint64, states, edges uint8, s string) {
		d := &dice{n: seed}
		checkEither(t, d.nfa(1+int(states)%12, int(edges)%40), s[:min(len(s), 12)])
	})
}
