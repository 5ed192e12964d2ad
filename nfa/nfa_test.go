package nfa_test

import (
	"math"
	"slices"
	"strings"
	"sync"
	"testing"

	"fretsaw/api"
	"fretsaw/nfa"
	"fretsaw/regex"
)

// spread makes numbers that look as if there were no order in them: the same ones at each run.
func spread(n uint64) uint64 {
	n += 0x9E3779B97F4A7C15
	n = (n ^ n>>30) * 0xBF58476D1CE4E5B9
	n = (n ^ n>>27) * 0x94D049BB133111EB
	return n ^ n>>31
}

// dice throws numbers, the same ones for the same n.
type dice struct{ n, at uint64 }

func (d *dice) below(n int) int {
	d.at++
	return int(spread(d.n<<24|d.at) % uint64(n))
}

func (d *dice) text(bytes string, room int) string {
	var s strings.Builder
	for range d.below(room + 1) {
		s.WriteByte(bytes[d.below(len(bytes))])
	}
	return s.String()
}

// nfa is one that may be.
func (d *dice) nfa(states, edges int) api.Nfa {
	n := api.Nfa{States: 1 + d.below(states)}
	n.Start, n.End = d.below(n.States), d.below(n.States)
	for range d.below(edges + 1) {
		e := api.Edge{From: d.below(n.States), To: d.below(n.States), Free: d.below(3) == 0}
		if e.Set = among(d.text("abc", 3)); d.below(8) == 0 {
			e.Set = all()
		}
		n.Edges = append(n.Edges, e)
	}
	return n
}

// tree is an expression's.
func (d *dice) tree(room int) api.Re {
	kind := 1 + d.below(4)
	if room == 0 {
		kind = api.RSet
	}
	switch kind {
	case api.RCat:
		return cat(d.kids([]int{0, 2, 2, 3}[d.below(4)], room-1, kind)...)
	case api.RAlt:
		return alt(d.kids(2+d.below(3), room-1, kind)...)
	case api.RRep:
		least := d.below(4)
		most := []int{-1, -1, least, least + d.below(3)}[d.below(4)]
		if least == 1 && most == 1 {
			most = 2
		}
		return rep(least, most, d.tree(room-1))
	}
	return of(d.text("abc", 2))
}

func (d *dice) kids(n, room, not int) []api.Re {
	var kids []api.Re
	for range n {
		kid := d.tree(room)
		for kid.Kind == not {
			kid = d.tree(room)
		}
		kids = append(kids, kid)
	}
	return kids
}

// texts are all of up to so many bytes.
func texts(bytes string, room int) []string {
	out := []string{""}
	for i := 0; i < len(out); i++ {
		for b := range len(bytes) {
			if len(out[i]) < room {
				out = append(out, out[i]+bytes[b:b+1])
			}
		}
	}
	return out
}

func checkRight(t *testing.T, n api.Nfa, want bool) {
	t.Helper()
	if got := nfa.Right(n); got != want || got != meantRight(n) {
		t.Errorf("Right(%s) = %t; want %t", showNfa(n), got, want)
	}
}

func checkFree(t *testing.T, n api.Nfa, l []int, want ...int) {
	t.Helper()
	if got := nfa.Free(n, l); !slices.Equal(got, want) || !slices.Equal(want, meantFree(n, l)) {
		t.Errorf("Free(%s, %v) = %v; want %v", showNfa(n), l, got, want)
	}
}

func checkEnds(t *testing.T, n api.Nfa, s string, at int, want ...int) {
	t.Helper()
	if got := nfa.Ends(n, s, at); !slices.Equal(got, want) || !slices.Equal(want, meantEnds(n, s, at)) {
		t.Errorf("Ends(%s, %q, %d) = %v; want %v", showNfa(n), s, at, got, want)
	}
}

// checkNfa holds all of Right, Free and Ends against the chapter's words, for any nfa.
func checkNfa(t *testing.T, n api.Nfa, l []int, s string, at int) {
	t.Helper()
	checkRight(t, n, meantRight(n))
	checkFree(t, n, l, meantFree(n, l)...)
	checkEnds(t, n, s, at, meantEnds(n, s, at)...)
}

// built is the nfa of a tree that must have one.
func built(t *testing.T, tree api.Re) api.Nfa {
	t.Helper()
	n, e := nfa.Build(tree)
	if e != api.OK || !meantRight(n) {
		t.Errorf("Build(%s) = %s, %d", show(tree), showNfa(n), e)
	}
	for _, edge := range n.Edges {
		if edge.Free && edge.Set != (api.Set{}) {
			t.Errorf("Build(%s): a Free edge has a Set", show(tree))
		}
	}
	return n
}

// checkBuild asks that the nfa of a tree takes what the tree takes, of texts, from each of their places on.
func checkBuild(t *testing.T, tree api.Re, of ...string) {
	t.Helper()
	for _, s := range of {
		for at := range len(s) + 1 {
			checkFrom(t, tree, s, at)
		}
	}
}

func checkFrom(t *testing.T, tree api.Re, s string, at int) {
	t.Helper()
	if got, want := nfa.Ends(built(t, tree), s, at), taken(tree, s, at); !slices.Equal(got, want) {
		t.Errorf("Ends(Build(%s), %q, %d) = %v; want %v", show(tree), s, at, got, want)
	}
}

func checkNone(t *testing.T, tree api.Re, want api.Errno) {
	t.Helper()
	n, e := nfa.Build(tree)
	if e != want || n.States != 0 || n.Start != 0 || n.End != 0 || len(n.Edges) != 0 {
		t.Errorf("Build(%s) = %s, %d; want %d", show(tree), showNfa(n), e, want)
	}
}

func parsed(t *testing.T, s string) api.Re {
	t.Helper()
	tree, e, at := regex.Parse(s)
	if e != api.OK {
		t.Fatalf("Parse(%q) = %d, %d", s, e, at)
	}
	return tree
}

// The chapter's own examples.
func TestExamples(t *testing.T) {
	checkEnds(t, built(t, parsed(t, "a*b?")), "aabx", 0, 0, 1, 2, 3)
	checkEnds(t, built(t, parsed(t, "(a|ab)(c|bcd)")), "abcd", 0, 3, 4)
	checkNone(t, parsed(t, "((a{20}){20}){20}"), api.ErrStates)
}

// P7.1: each bound.
func TestRight(t *testing.T) {
	checkRight(t, api.Nfa{}, false)
	checkRight(t, api.Nfa{States: 1}, true)
	checkRight(t, api.Nfa{States: 1, Edges: []api.Edge{}}, true)
	for _, states := range []int{math.MinInt, -1, 0, 2001, math.MaxInt} {
		checkRight(t, api.Nfa{States: states}, false)
	}
	for _, states := range []int{1, 2, 3, 1999, 2000} {
		last := states - 1
		checkRight(t, api.Nfa{States: states}, true)
		checkRight(t, api.Nfa{States: states, Start: last, End: last}, true)
		for _, i := range []int{math.MinInt, -1, states, states + 1, math.MaxInt} {
			checkRight(t, api.Nfa{States: states, Start: i}, false)
			checkRight(t, api.Nfa{States: states, End: i}, false)
			for _, isFree := range []bool{false, true} {
				checkRight(t, api.Nfa{States: states, Edges: []api.Edge{{From: i, Free: isFree}}}, false)
				checkRight(t, api.Nfa{States: states, Edges: []api.Edge{{To: i, Free: isFree}}}, false)
				checkRight(t, api.Nfa{States: states, Edges: []api.Edge{free(0, last), {}, {From: last, To: i, Free: isFree}}}, false)
			}
		}
		checkRight(t, api.Nfa{States: states, Edges: []api.Edge{free(0, last), free(last, 0), over("a", last, last), {}}}, true)
	}
	for _, states := range []int{1, 2, 2000} {
		checkRight(t, api.Nfa{States: states, Edges: make([]api.Edge, 15999)}, true)
		checkRight(t, api.Nfa{States: states, Edges: make([]api.Edge, 16000)}, true)
		checkRight(t, api.Nfa{States: states, Edges: make([]api.Edge, 16001)}, false)
	}
	many := make([]api.Edge, 16000)
	many[15999].To = 1
	checkRight(t, api.Nfa{States: 1, Edges: many}, false)
	checkRight(t, api.Nfa{States: 2, Edges: many}, true)
}

// R3: a Free edge's Set is not looked at; one of another edge's is looked at as it is.
func TestFreeEdgesHaveNoSet(t *testing.T) {
	n := api.Nfa{States: 2, End: 1, Edges: []api.Edge{{From: 0, To: 1, Free: true, Set: among("a")}}}
	checkRight(t, n, true)
	checkFree(t, n, []int{0}, 0, 1)
	checkEnds(t, n, "a", 0, 0)
}

// P7.2.
func TestFree(t *testing.T) {
	ring := api.Nfa{States: 6, Edges: []api.Edge{free(4, 1), free(1, 3), free(3, 4), over("a", 3, 5), free(2, 2), free(0, 2)}}
	checkFree(t, ring, nil)
	checkFree(t, ring, []int{})
	checkFree(t, ring, []int{0}, 0, 2)
	checkFree(t, ring, []int{1}, 1, 3, 4)
	checkFree(t, ring, []int{2}, 2)
	checkFree(t, ring, []int{3}, 1, 3, 4)
	checkFree(t, ring, []int{4}, 1, 3, 4)
	checkFree(t, ring, []int{5}, 5)
	checkFree(t, ring, []int{5, 4, 0}, 0, 1, 2, 3, 4, 5)
	checkFree(t, ring, []int{5, 5, 3, 1, 3}, 1, 3, 4, 5)
	checkFree(t, ring, []int{-1, 6, 5, math.MaxInt, math.MinInt, 2000}, 5)
	checkFree(t, ring, []int{-1, 6})
	checkFree(t, api.Nfa{}, []int{0})
	checkFree(t, api.Nfa{States: 1}, []int{0, 1}, 0)
	checkFree(t, api.Nfa{States: 2, Start: 2, Edges: []api.Edge{free(0, 1)}}, []int{0})
	checkFree(t, api.Nfa{States: 2, End: -1, Edges: []api.Edge{free(0, 1)}}, []int{0})
	checkFree(t, api.Nfa{States: 2, Edges: []api.Edge{free(0, 2)}}, []int{0})
	checkFree(t, api.Nfa{States: 2001}, []int{0})
	checkFree(t, api.Nfa{States: 1, Edges: make([]api.Edge, 16001)}, []int{0})
}

// P7.2: long ways, through all states an nfa may have, and as many edges.
func TestFreeOfMany(t *testing.T) {
	var down, out []int
	n := api.Nfa{States: 2000}
	for i := range 2000 {
		out = append(out, i)
		down = append(down, 1999-i)
		n.Edges = append(n.Edges, free(i, (i+1999)%2000))
	}
	checkFree(t, n, []int{1000}, out...)
	checkFree(t, n, down, out...)
	n.Edges[0].Free = false
	checkFree(t, n, []int{5}, 0, 1, 2, 3, 4, 5)
	full := api.Nfa{States: 2000, End: 1}
	for i := range 16000 {
		full.Edges = append(full.Edges, free(i%2000, (i*7+i/2000)%2000))
	}
	checkFree(t, full, []int{3}, meantFree(full, []int{3})...)
	checkEnds(t, full, "ab", 1, meantEnds(full, "ab", 1)...)
}

// P7.3: each place, and those that are none.
func TestEnds(t *testing.T) {
	n := api.Nfa{States: 3, Start: 2, End: 0, Edges: []api.Edge{over("a", 2, 1), over("b", 1, 1), free(1, 0)}}
	for at, want := range [][]int{{1, 2, 3}, nil, nil, {4}, {5, 6}, nil, nil} {
		checkEnds(t, n, "abbaab", at, want...)
	}
	for _, at := range []int{-1, 7, 8, math.MaxInt, math.MinInt} {
		checkEnds(t, n, "abbaab", at)
	}
	checkEnds(t, n, "", 0)
	checkEnds(t, n, "", 1)
	checkEnds(t, n, "", -1)
	still := api.Nfa{States: 1}
	for at := range 4 {
		checkEnds(t, still, "abc", at, at)
	}
	checkEnds(t, still, "abc", 4)
	checkEnds(t, still, "", 0, 0)
	apart := api.Nfa{States: 2, End: 1}
	checkEnds(t, apart, "", 0)
	checkEnds(t, apart, "abc", 1)
}

// P7.3: an nfa that may not be has no ends, though what it has would take the text.
func TestEndsOfNone(t *testing.T) {
	checkEnds(t, api.Nfa{}, "", 0)
	checkEnds(t, api.Nfa{States: 1, Start: 1}, "", 0)
	checkEnds(t, api.Nfa{States: 1, Start: -1, End: -1}, "", 0)
	checkEnds(t, api.Nfa{States: 2, End: 2, Edges: []api.Edge{free(0, 2)}}, "", 0)
	checkEnds(t, api.Nfa{States: 2, Edges: []api.Edge{free(1, 2)}}, "a", 0)
	checkEnds(t, api.Nfa{States: 2, Edges: []api.Edge{free(-1, 0)}}, "a", 0)
	checkEnds(t, api.Nfa{States: 2001}, "a", 0)
	checkEnds(t, api.Nfa{States: 1, Edges: make([]api.Edge, 16001)}, "a", 0)
}

// P7.3: Free edges that lead back, to themselves too, and End and Start amid the way.
func TestEndsOfRings(t *testing.T) {
	ring := api.Nfa{States: 3, Start: 0, End: 2, Edges: []api.Edge{free(0, 1), free(1, 2), free(2, 0), free(1, 1), over("ab", 1, 2)}}
	checkEnds(t, ring, "abca", 0, 0, 1, 2)
	checkEnds(t, ring, "abca", 2, 2)
	checkEnds(t, ring, "abca", 3, 3, 4)
	amid := api.Nfa{States: 3, Start: 1, End: 1, Edges: []api.Edge{over("a", 1, 0), over("b", 0, 2), free(2, 1)}}
	checkEnds(t, amid, "ababa", 0, 0, 2, 4)
	checkEnds(t, amid, "ababa", 1, 1)
	through := api.Nfa{States: 2, Start: 0, End: 1, Edges: []api.Edge{over("a", 0, 1), over("a", 1, 0)}}
	checkEnds(t, through, "aaaaa", 0, 1, 3, 5)
	twice := api.Nfa{States: 2, End: 1, Edges: []api.Edge{over("a", 0, 1), over("a", 0, 1), free(1, 0), free(1, 0)}}
	checkEnds(t, twice, "aa", 0, 1, 2)
	none := api.Nfa{States: 2, End: 1, Edges: []api.Edge{{From: 0, To: 1}}}
	checkEnds(t, none, "\x00a", 0)
}

// P7.3: each byte is held against the edge's set.
func TestEndsOfBytes(t *testing.T) {
	for b := range 256 {
		s := string([]byte{byte(b)})
		n := api.Nfa{States: 2, End: 1, Edges: []api.Edge{over(s, 0, 1)}}
		for other := range 256 {
			var want []int
			if other == b {
				want = []int{1}
			}
			checkEnds(t, n, string([]byte{byte(other)}), 0, want...)
		}
	}
}

// P7.3: a text that is far longer than what an nfa takes of it, and one of which all is taken.
func TestLongTexts(t *testing.T) {
	n := built(t, parsed(t, "(ab?)*"))
	long := strings.Repeat("ab", 50000)
	ends := nfa.Ends(n, long, 1)
	if !slices.Equal(ends, []int{1}) {
		t.Errorf("%d ends from 1 on", len(ends))
	}
	ends = nfa.Ends(n, long, 0)
	for i, at := range ends {
		if i != at {
			t.Fatalf("the end %d is %d", i, at)
		}
	}
	if len(ends) != len(long)+1 {
		t.Errorf("%d ends", len(ends))
	}
}

// P7.1 to P7.3, of many nfas.
func TestMany(t *testing.T) {
	for i := range 4000 {
		d := &dice{n: uint64(i)}
		n := d.nfa(1+d.below(8), 16)
		if d.below(20) == 0 {
			n.Edges = append(n.Edges, api.Edge{From: d.below(n.States + 1), To: d.below(n.States+1) - d.below(2)})
		}
		l := []int{d.below(n.States), d.below(n.States + 2), d.below(n.States) - 1}
		s := d.text("abcd", 6)
		for at := -1; at <= len(s)+1; at++ {
			checkNfa(t, n, l[:d.below(4)], s, at)
		}
	}
}

// P7.4: each kind of node.
func TestBuild(t *testing.T) {
	a, b, c := of("a"), of("b"), of("c")
	short := texts("abc", 5)
	every := api.Re{Kind: api.RSet, Set: all()}
	for _, tree := range []api.Re{
		of(""), of("abc"), a, every,
		cat(), cat(a, b), cat(a, b, c), cat(a, of(""), b), cat(rep(0, 1, a), rep(0, 1, a)),
		alt(a, b), alt(a, b, c), alt(cat(), a), alt(a, cat()), alt(cat(), cat()), alt(a, a), alt(of(""), of("")), alt(of(""), b),
		alt(cat(a, b), cat(a, c), a), cat(alt(a, cat(a, b)), alt(c, cat(b, c))),
		rep(0, 0, a), rep(0, 0, cat()), rep(0, 0, of("")), rep(0, 1, a), rep(0, 2, a), rep(0, 3, cat(a, b)),
		rep(1, 2, a), rep(1, 3, a), rep(2, 2, a), rep(2, 3, a), rep(2, 4, alt(a, b)), rep(3, 3, cat(a, b)), rep(20, 20, a), rep(0, 20, a),
		rep(0, -1, a), rep(1, -1, a), rep(2, -1, a), rep(3, -1, a), rep(0, -1, cat(a, b)), rep(1, -1, cat(a, b)), rep(2, -1, alt(a, cat(b, c))),
		rep(0, -1, cat()), rep(1, -1, cat()), rep(3, -1, cat()), rep(3, 3, cat()), rep(2, 4, cat()),
		rep(0, -1, of("")), rep(1, -1, of("")), rep(2, -1, of("")), rep(0, 2, of("")), rep(1, 2, of("")),
		rep(0, -1, every), rep(2, -1, every),
		rep(0, -1, rep(0, -1, a)), rep(1, -1, rep(1, -1, a)), rep(0, -1, rep(1, -1, a)), rep(1, -1, rep(0, -1, a)),
		rep(2, -1, rep(2, -1, a)), rep(2, -1, rep(2, 2, a)), rep(2, 2, rep(2, -1, a)), rep(2, 2, rep(1, 2, a)), rep(0, 2, rep(2, 2, a)), rep(1, 2, rep(0, 1, a)),
		rep(0, -1, rep(2, 3, a)), rep(2, -1, rep(0, 1, a)), rep(1, -1, alt(a, cat())), rep(2, -1, alt(cat(), cat(a, b))), rep(2, 3, alt(cat(), a, b)),
		rep(0, -1, alt(rep(0, -1, a), cat(b, rep(0, -1, c)))), rep(2, 2, alt(rep(1, -1, a), rep(1, -1, b))),
		// Two at the same states, none of which may go on where the other one is.
		alt(rep(0, -1, a), rep(0, -1, b)), alt(rep(1, -1, a), rep(1, -1, b)), alt(rep(0, 2, a), rep(0, -1, b), c), alt(rep(2, -1, a), rep(0, 0, b)),
		cat(rep(0, -1, a), rep(0, -1, b)), cat(rep(1, -1, a), rep(1, -1, b)), cat(rep(0, 1, a), rep(0, -1, b), rep(0, 1, c)),
		cat(rep(0, -1, a), a), cat(rep(1, -1, cat(a, b)), a), cat(a, rep(0, 2, b), alt(a, c)),
		rep(0, 2, cat(rep(0, -1, a), b)), rep(0, -1, cat(rep(0, -1, a), rep(0, -1, b))), rep(1, 3, alt(rep(0, -1, a), cat(b, a))),
	} {
		checkBuild(t, tree, short...)
		checkBuild(t, tree, strings.Repeat("a", 22), strings.Repeat("ab", 9), "\x00a\xff")
	}
}

// P7.4: an RSet of each byte takes it and no other.
func TestBuildBytes(t *testing.T) {
	var bytes []string
	for b := range 256 {
		bytes = append(bytes, string([]byte{byte(b)}))
	}
	for _, s := range bytes {
		checkBuild(t, of(s), bytes...)
	}
	checkBuild(t, of(""), bytes...)
	checkBuild(t, api.Re{Kind: api.RSet, Set: all()}, bytes...)
}

// P7.4: all bounds of times.
func TestBuildTimes(t *testing.T) {
	long := strings.Repeat("a", 23)
	for least := range 21 {
		for most := -1; most <= 20; most++ {
			if most >= 0 && most < least || least == 1 && most == 1 {
				continue
			}
			checkBuild(t, rep(least, most, of("a")), long)
			checkBuild(t, cat(rep(least, most, of("a")), of("b")), long+"b")
			checkBuild(t, rep(least, most, alt(cat(), of("a"))), long)
			checkBuild(t, rep(least, most, word("aa")), long+long)
		}
	}
}

// P7.4: many trees.
func TestBuildMany(t *testing.T) {
	for i := range 3000 {
		d := &dice{n: uint64(i)}
		tree := d.tree(1 + d.below(5))
		if size(tree) > 1000 || nodes(tree) > 512 {
			continue
		}
		checkBuild(t, tree, d.text("abc", 9), d.text("ab", 9), d.text("a", 9))
	}
}

// P7.4: regex.Right's errors, ErrLong ahead of ErrTree, and both ahead of ErrStates.
func TestBuildErrors(t *testing.T) {
	a := of("a")
	for _, tree := range []api.Re{
		{}, {Kind: 5}, {Kind: -1}, {Kind: api.RSet, Kids: []api.Re{a}}, {Kind: api.RSet, Min: 1}, cat(a), cat(cat(), a), alt(), alt(a), alt(alt(a, a), a),
		{Kind: api.RRep, Max: -1}, {Kind: api.RRep, Max: -1, Kids: []api.Re{a, a}}, rep(1, 1, a), rep(2, 1, a), rep(-1, -1, a), rep(21, 21, a), rep(0, 21, a), rep(0, -2, a),
		rep(0, math.MaxInt, a), rep(math.MinInt, -1, a), {Kind: api.RAlt, Set: among("a"), Kids: []api.Re{a, a}}, cat(a, api.Re{}), rep(0, 0, api.Re{}),
		rep(20, 20, rep(20, 20, rep(20, 20, alt(a)))),
	} {
		if regex.Right(tree) != api.ErrTree {
			t.Errorf("%s is a tree", show(tree))
		}
		checkNone(t, tree, api.ErrTree)
	}
	deep, bad := a, api.Re{}
	for range 30 {
		deep, bad = rep(20, 20, deep), rep(1, 1, bad)
	}
	checkNone(t, deep, api.ErrLong)
	checkNone(t, bad, api.ErrLong)
	checkNone(t, word(strings.Repeat("a", 512)), api.ErrLong)
	checkNone(t, cat(append(word(strings.Repeat("a", 511)).Kids, cat())...), api.ErrLong)
	own := cat(a, a)
	own.Kids[0] = own
	checkNone(t, own, api.ErrLong)
}

// filled is a tree and as many bytes `a` behind it as make its SIZE n.
func filled(tree api.Re, n int) api.Re {
	return cat(append([]api.Re{tree}, word(strings.Repeat("a", (n-2-size(tree))/2)).Kids...)...)
}

// P7.4: whatever has a SIZE of at most 1000 is built, in each shape that comes to it.
func TestSize(t *testing.T) {
	a, b := of("a"), of("b")
	many := strings.Repeat("a", 500)
	for _, tree := range []api.Re{
		word(many[:499]),
		alt(word(many[:499]).Kids...),
		rep(0, -1, word(many[:498])),
		rep(1, -1, word(many[:498])),
		rep(0, 0, alt(word(many[:498]).Kids...)),
		rep(0, 1, alt(word(many[:498]).Kids...)),
		filled(b, 1000),
		filled(rep(20, 20, rep(20, 20, a)), 1000),
		filled(rep(0, 20, rep(0, 20, b)), 1000),
		filled(rep(20, -1, rep(20, -1, a)), 1000),
		filled(rep(20, -1, rep(19, 20, b)), 1000),
		filled(rep(2, -1, alt(word(many[:240]).Kids...)), 1000),
		filled(rep(20, 20, alt(word(many[:20]).Kids...)), 1000),
		filled(rep(0, 20, alt(cat(), rep(0, -1, a), rep(1, -1, b), cat(a, b))), 1000),
		filled(rep(5, -1, rep(5, -1, rep(2, -1, rep(0, -1, rep(1, -1, a))))), 1000),
		filled(rep(3, 3, rep(3, 3, rep(3, 3, rep(3, 3, cat())))), 1000),
	} {
		if size(tree) != 1000 {
			t.Errorf("%s has the SIZE %d", show(tree), size(tree))
		}
		checkFrom(t, tree, many, 0)
		checkFrom(t, tree, "baab"+many+"b", 1)
		checkFrom(t, tree, strings.Repeat("b", 20)+many, 0)
	}
}

// P7.4: such as are deep are small, as long as each takes its Kid once only.
func TestDeep(t *testing.T) {
	for _, l := range []struct{ least, most, last int }{{0, -1, 3}, {1, -1, 3}, {0, 1, 1}, {0, 0, 0}} {
		tree := of("a")
		for range 29 {
			tree = rep(l.least, l.most, tree)
		}
		if size(tree) != 60 {
			t.Errorf("SIZE %d", size(tree))
		}
		ends := []int{0, 1, 2, 3}[l.least : l.last+1]
		checkEnds(t, built(t, tree), "aaab", 0, ends...)
	}
	mixed := alt(cat(of("a"), of("b")), cat())
	for i := range 27 {
		mixed = rep(i%2, []int{-1, -1, 1}[i%3], mixed)
		if i%2 == 1 && i%3 == 2 {
			mixed.Max = 2
		}
	}
	checkEnds(t, built(t, mixed), "ababa", 0, 0, 2, 4)
	both := of("a")
	for i := range 29 {
		if i%2 == 0 {
			both = alt(both, of("b"))
		} else {
			both = cat(both, rep(0, -1, of("c")))
		}
	}
	checkBuild(t, both, texts("abc", 4)...)
}

// checkEither asks of any tree that it is built, or ErrStates, and that only where its SIZE lets it; and that what is built takes what the tree takes.
func checkEither(t *testing.T, tree api.Re, of ...string) {
	t.Helper()
	n, e := nfa.Build(tree)
	switch {
	case e == api.ErrStates && size(tree) > 1000:
		checkNone(t, tree, e)
	case e != api.OK || !meantRight(n):
		t.Errorf("Build(%s) = %s, %d: its SIZE is %d", show(tree), showNfa(n), e, size(tree))
	}
	for _, s := range of {
		if e == api.OK {
			checkFrom(t, tree, s, 0)
		}
	}
}

// P7.4: beyond the SIZE that is always built, around each bound that an nfa has.
func TestBeyond(t *testing.T) {
	a := of("a")
	long := strings.Repeat("a", 511)
	for n := 480; n <= 511; n++ {
		checkEither(t, word(long[:n]), long)
		checkEither(t, alt(word(long[:n]).Kids...), "aa")
	}
	for n := 2; n <= 20; n++ {
		for m := 2; m <= 20; m++ {
			checkEither(t, rep(n, n, rep(0, m, word("aaaaa"))), long[:40])
			checkEither(t, rep(n, -1, rep(m, m, rep(2, 2, alt(a, word("ab"))))), "aabab"+long[:40])
			checkEither(t, rep(0, n, rep(0, m, alt(word(long[:60]).Kids...))), "aab")
			checkEither(t, rep(n, -1, rep(m, -1, alt(a, cat(), rep(0, -1, of("b"))))), "aab")
		}
	}
	// The number of states may go through MaxNfa here, one by one; that of edges through 8 MaxNfa.
	for n := 150; n < 300; n++ {
		checkEither(t, cat(rep(4, 4, rep(6, 6, rep(9, 9, word("aaaaaaa")))), alt(word(long[:n]), of("b"))))
	}
	for n := 350; n < 400; n++ {
		checkEither(t, cat(rep(20, 20, rep(20, 20, alt(word(long[:39]).Kids...))), alt(word(long[:n]).Kids...)))
	}
}

// P7.4: what needs more than MaxNfa states can't be built, and that is found out soon, however far beyond it is.
func TestStates(t *testing.T) {
	a := of("a")
	many := strings.Repeat("a", 480)
	checkNone(t, rep(20, 20, rep(20, 20, rep(5, 5, a))), api.ErrStates)
	checkNone(t, rep(20, -1, rep(20, 20, rep(5, 5, a))), api.ErrStates)
	checkNone(t, rep(0, 20, rep(20, 20, rep(5, 5, a))), api.ErrStates)
	checkNone(t, alt(a, rep(5, 5, word(many))), api.ErrStates)
	checkNone(t, rep(0, -1, rep(20, 20, rep(20, 20, rep(20, 20, a)))), api.ErrStates)
	for _, bounds := range [][2]int{{20, 20}, {0, 20}, {20, -1}, {19, 20}} {
		for _, kid := range []api.Re{a, cat(), of(""), alt(a, cat()), rep(0, -1, a), rep(0, 1, a), word(many), alt(word(many).Kids...)} {
			tree := kid
			for i := range 27 {
				tree = rep(bounds[0], bounds[1], tree)
				if i > 0 {
					checkEither(t, tree)
				}
			}
			checkEither(t, rep(0, 0, tree), "a")
		}
	}
}

// P7.5.
func TestWhatFollows(t *testing.T) {
	short := texts("abc", 4)
	for i := range 600 {
		d := &dice{n: uint64(i) + 1<<32}
		kids := d.kids(2, 2, api.RAlt)
		least := d.below(3)
		one, two := built(t, kids[0]), built(t, kids[1])
		either := built(t, alt(kids...))
		any := built(t, rep(0, -1, kids[0]))
		upTo := built(t, rep(0, least, kids[0]))
		for _, s := range short {
			takes := func(n api.Nfa) bool { return slices.Contains(nfa.Ends(n, s, 0), len(s)) }
			if takes(either) != (takes(one) || takes(two)) {
				t.Errorf("%q: one of %s", s, show(alt(kids...)))
			}
			if takes(one) && !takes(any) || takes(one) && least > 0 && !takes(upTo) {
				t.Errorf("%q: any number of %s", s, show(kids[0]))
			}
			if s == "" && !(takes(any) && takes(upTo)) {
				t.Errorf("the empty text: any number of %s", show(kids[0]))
			}
		}
	}
}

// P7.5: one behind the other, and any number of times, by the parts of a text.
func TestParts(t *testing.T) {
	short := texts("ab", 5)
	for i := range 200 {
		d := &dice{n: uint64(i) + 1<<33}
		kids := d.kids(2, 2, api.RCat)
		one, two := built(t, kids[0]), built(t, kids[1])
		row, any := built(t, cat(kids...)), built(t, rep(0, -1, kids[0]))
		for _, s := range short {
			var ends []int
			for _, at := range nfa.Ends(one, s, 0) {
				ends = append(ends, nfa.Ends(two, s, at)...)
			}
			slices.Sort(ends)
			checkEnds(t, row, s, 0, slices.Compact(ends)...)
			ends = []int{0}
			for i := 0; i < len(ends); i++ {
				for _, to := range nfa.Ends(one, s, ends[i]) {
					if !slices.Contains(ends, to) {
						ends = append(ends, to)
					}
				}
			}
			slices.Sort(ends)
			checkEnds(t, any, s, 0, ends...)
		}
	}
}

// R4: answers share no memory with what was given, nor with another answer.
func TestNewMemory(t *testing.T) {
	tree := parsed(t, "a*(b|c){2,3}")
	one, two := built(t, tree), built(t, tree)
	want := slices.Clone(one.Edges)
	for i := range two.Edges {
		two.Edges[i] = api.Edge{From: -1}
	}
	if !slices.Equal(one.Edges, want) {
		t.Error("two nfas share their edges")
	}
	l := []int{3, 0, 3, 1}
	for i := range 3 {
		got := nfa.Free(one, l)
		for j := range got {
			got[j] = -1 - i
		}
		ends := nfa.Ends(one, "aabc", 0)
		for j := range ends {
			ends[j] = -1 - i
		}
	}
	if !slices.Equal(l, []int{3, 0, 3, 1}) || !slices.Equal(one.Edges, want) {
		t.Error("an argument was changed")
	}
	checkFree(t, one, l, meantFree(one, l)...)
}

// R1: no call keeps anything, so that several may be made at one time.
func TestNothingIsKept(t *testing.T) {
	tree := parsed(t, "(a|b*)c{0,2}|[a-c]+d")
	shared := built(t, tree)
	var all sync.WaitGroup
	for range 8 {
		all.Go(func() {
			for i := range 100 {
				d := &dice{n: uint64(i)}
				checkNone(t, rep(20, 20, rep(20, 20, rep(20, 20, tree))), api.ErrStates)
				checkNone(t, api.Re{}, api.ErrTree)
				n := built(t, tree)
				if !slices.Equal(n.Edges, shared.Edges) || n.States != shared.States {
					t.Error("another nfa of the same tree")
				}
				checkNfa(t, shared, []int{1, 0, d.below(9)}, d.text("abcd", 9), 0)
				checkNfa(t, d.nfa(5, 9), []int{2, 0}, d.text("abcd", 9), 0)
			}
		})
	}
	all.Wait()
}

func FuzzBuild(f *testing.F) {
	f.Add("a*b?", "aabx")
	f.Add("(a|ab)(c|bcd)", "abcd")
	f.Add("((a{20}){20}){20}", "")
	f.Add("(()*|a{0,3}){2,}", "aaaa")
	f.Fuzz(func(t *testing.T, text, s string) {
		tree, e, _ := regex.Parse(text)
		if e != api.OK || regex.Right(tree) != api.OK {
			return
		}
		checkEither(t, tree)
		if size(tree) <= 10000 && len(s) <= 20 && strings.Count(text, "*")+strings.Count(text, "+")+strings.Count(text, ",}") < 6 {
			checkEither(t, tree, s)
		}
	})
}

func FuzzEnds(f *testing.F) {
	f.Add(uint64(1), uint8(3), uint8(9), "abc", 0, 2)
	f.Fuzz(func(t *testing.T, seed uint64, states, edges uint8, s string, at, state int) {
		d := &dice{n: seed}
		n := d.nfa(1+int(states)%12, int(edges)%40)
		n.End += int(states) / 250
		checkNfa(t, n, []int{state, d.below(n.States)}, s[:min(len(s), 12)], at)
	})
}
