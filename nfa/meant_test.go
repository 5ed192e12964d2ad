package nfa_test

import (
	"fmt"
	"strings"

	"fretsaw/api"
)

// This file holds the chapter's words once more, in another way than the program has them: which nfa may be, what one takes, what an expression takes, and its SIZE.

func such(holds func(b int) bool) api.Set {
	var a api.Set
	for b := range 256 {
		if holds(b) {
			a.S[b/64] |= 1 << uint(b%64)
		}
	}
	return a
}

func in(a api.Set, b byte) bool { return a.S[b/64]&(1<<uint(b%64)) != 0 }

func among(bytes string) api.Set {
	return such(func(b int) bool { return strings.IndexByte(bytes, byte(b)) >= 0 })
}

func all() api.Set { return such(func(b int) bool { return true }) }

func of(bytes string) api.Re { return api.Re{Kind: api.RSet, Set: among(bytes)} }

func cat(kids ...api.Re) api.Re { return api.Re{Kind: api.RCat, Kids: kids} }

func alt(kids ...api.Re) api.Re { return api.Re{Kind: api.RAlt, Kids: kids} }

func rep(least, most int, kid api.Re) api.Re {
	return api.Re{Kind: api.RRep, Min: least, Max: most, Kids: []api.Re{kid}}
}

// word is the bytes of a text, one node each.
func word(s string) api.Re {
	var kids []api.Re
	for i := range len(s) {
		kids = append(kids, of(s[i:i+1]))
	}
	return cat(kids...)
}

func free(from, to int) api.Edge { return api.Edge{From: from, To: to, Free: true} }

func over(bytes string, from, to int) api.Edge {
	return api.Edge{From: from, To: to, Set: among(bytes)}
}

func show(t api.Re) string {
	if n := nodes(t); n > 60 {
		return fmt.Sprintf("<%d: %d nodes>", t.Kind, n)
	}
	var kids []string
	for _, kid := range t.Kids {
		kids = append(kids, show(kid))
	}
	switch t.Kind {
	case api.RSet:
		return fmt.Sprintf("%x", t.Set.S)
	case api.RRep:
		return fmt.Sprintf("(%s){%d,%d}", strings.Join(kids, " "), t.Min, t.Max)
	}
	return fmt.Sprintf("<%d %s>", t.Kind, strings.Join(kids, " "))
}

func showNfa(n api.Nfa) string {
	if len(n.Edges) > 30 {
		return fmt.Sprintf("%d states, %d to %d, %d edges", n.States, n.Start, n.End, len(n.Edges))
	}
	return fmt.Sprint(n)
}

func nodes(t api.Re) int {
	n := 1
	for _, kid := range t.Kids {
		n += nodes(kid)
	}
	return n
}

func meantRight(n api.Nfa) bool {
	ok := n.States >= 1 && n.States <= 2000 && len(n.Edges) <= 16000
	states := []int{n.Start, n.End}
	for _, e := range n.Edges {
		states = append(states, e.From, e.To)
	}
	for _, i := range states {
		ok = ok && i >= 0 && i <= n.States-1
	}
	return ok
}

// reached marks what is reached over Free edges from what is marked: all edges are looked at, again and again, till nothing comes of it.
func reached(n api.Nfa, marks []bool) {
	for more := true; more; {
		more = false
		for _, e := range n.Edges {
			if e.Free && marks[e.From] && !marks[e.To] {
				marks[e.To] = true
				more = true
			}
		}
	}
}

func meantFree(n api.Nfa, l []int) []int {
	if !meantRight(n) {
		return nil
	}
	marks := make([]bool, n.States)
	for _, i := range l {
		if i >= 0 && i < n.States {
			marks[i] = true
		}
	}
	reached(n, marks)
	return marked(marks)
}

func marked(marks []bool) []int {
	var out []int
	for i, m := range marks {
		if m {
			out = append(out, i)
		}
	}
	return out
}

// meantEnds goes the other way round than the program: of each place that could be the end, from End back to Start.
func meantEnds(n api.Nfa, s string, at int) []int {
	if !meantRight(n) || at < 0 || at > len(s) {
		return nil
	}
	back := api.Nfa{States: n.States}
	for _, e := range n.Edges {
		e.From, e.To = e.To, e.From
		back.Edges = append(back.Edges, e)
	}
	var out []int
	for to := at; to <= len(s); to++ {
		marks := make([]bool, n.States)
		marks[n.End] = true
		reached(back, marks)
		for i := to - 1; i >= at; i-- {
			next := make([]bool, n.States)
			for _, e := range back.Edges {
				if !e.Free && in(e.Set, s[i]) && marks[e.From] {
					next[e.To] = true
				}
			}
			reached(back, next)
			marks = next
		}
		if marks[n.Start] {
			out = append(out, to)
		}
	}
	return out
}

// behind marks the places that are behind a text that the tree takes and that begins at one of those that are marked.
func behind(t api.Re, s string, marks []bool) []bool {
	out := make([]bool, len(marks))
	switch t.Kind {
	case api.RSet:
		for i := range len(s) {
			out[i+1] = marks[i] && in(t.Set, s[i])
		}
	case api.RCat:
		copy(out, marks)
		for _, kid := range t.Kids {
			out = behind(kid, s, out)
		}
	case api.RAlt:
		for _, kid := range t.Kids {
			join(out, behind(kid, s, marks))
		}
	case api.RRep:
		for range t.Min {
			marks = behind(t.Kids[0], s, marks)
		}
		join(out, marks)
		for i := t.Min; t.Max == -1 || i < t.Max; i++ {
			marks = behind(t.Kids[0], s, marks)
			if !join(out, marks) && t.Max == -1 {
				break
			}
		}
	}
	return out
}

// join marks what is marked in another one, too, and tells whether that is more than there was.
func join(to, marks []bool) bool {
	more := false
	for i, m := range marks {
		more = more || m && !to[i]
		to[i] = to[i] || m
	}
	return more
}

// taken are the places at which what the tree itself takes of s, from at on, ends.
func taken(t api.Re, s string, at int) []int {
	marks := make([]bool, len(s)+1)
	marks[at] = true
	return marked(behind(t, s, marks))
}

const enough = 1 << 40 // a SIZE that is beyond all bounds

func size(t api.Re) int {
	kids := 0
	for _, kid := range t.Kids {
		kids = min(kids+size(kid), enough)
	}
	switch t.Kind {
	case api.RSet:
		return 2
	case api.RRep:
		return min(2+kids*max(t.Max, t.Min, 1), enough)
	}
	return 2 + kids
}
