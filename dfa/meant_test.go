package dfa_test

import (
	"fmt"
	"strings"

	"fretsaw/api"
)

// This file holds the chapter's words once more, in another way than the program has them: which dfa may be, what one takes, and which sets of an nfa's states are reached.

func such(holds func(b int) bool) api.Set {
	var a api.Set
	for b := range 256 {
		if holds(b) {
			a.S[b/64] |= 1 << uint(b%64)
		}
	}
	return a
}

func in(a api.Set, b byte) bool { return a.S[b/64]&(1<<uint(b%64)) != 0 }

func among(bytes string) api.Set {
	return such(func(b int) bool { return strings.IndexByte(bytes, byte(b)) >= 0 })
}

func all() api.Set { return such(func(b int) bool { return true }) }

func free(from, to int) api.Edge { return api.Edge{From: from, To: to, Free: true} }

func over(bytes string, from, to int) api.Edge {
	return api.Edge{From: from, To: to, Set: among(bytes)}
}

func overAll(from, to int) api.Edge { return api.Edge{From: from, To: to, Set: all()} }

func showNfa(n api.Nfa) string {
	if len(n.Edges) > 30 {
		return fmt.Sprintf("%d states, %d to %d, %d edges", n.States, n.Start, n.End, len(n.Edges))
	}
	return fmt.Sprint(n)
}

func showDfa(d api.Dfa) string {
	if len(d.Next) > 12 || len(d.Next) > 0 && len(d.Next[0]) > 12 {
		return fmt.Sprintf("%d rows, the first one of %d, %d accept or not", len(d.Next), len(d.Next[0]), len(d.Accept))
	}
	return fmt.Sprint(d.Next, d.Accept, d.Class['a'], d.Class['b'], d.Class['c'])
}

func meantRight(d api.Dfa) bool {
	if len(d.Next) != len(d.Accept) || len(d.Next) == 0 || len(d.Next) >= 401 {
		return false
	}
	ok := true
	for _, row := range d.Next {
		ok = ok && len(row) == len(d.Next[0]) && len(row) > 0 && len(row) < 257
		for _, i := range row {
			ok = ok && (i == -1 || i >= 0 && i <= len(d.Accept)-1)
		}
		for b := range 256 {
			ok = ok && int(d.Class[b]) <= len(row)-1
		}
	}
	return ok
}

// meantTakes goes through the whole of one text.
func meantTakes(d api.Dfa, s string) bool {
	state := 0
	for i := range len(s) {
		if state = d.Next[state][d.Class[s[i]]]; state == -1 {
			return false
		}
	}
	return d.Accept[state]
}

func meantEnds(d api.Dfa, s string, at int) []int {
	if !meantRight(d) || at < 0 || at > len(s) {
		return nil
	}
	var out []int
	for to := at; to <= len(s); to++ {
		if meantTakes(d, s[at:to]) {
			out = append(out, to)
		}
	}
	return out
}

// reached marks what is reached over Free edges from what is marked: all edges are looked at, again and again, till nothing comes of it.
func reached(n api.Nfa, marks []bool) {
	for more := true; more; {
		more = false
		for _, e := range n.Edges {
			if e.Free && marks[e.From] && !marks[e.To] {
				marks[e.To] = true
				more = true
			}
		}
	}
}

func written(marks []bool) string {
	s := make([]byte, len(marks))
	for i, m := range marks {
		if m {
			s[i] = 1
		}
	}
	return string(s)
}

// meantSets counts the sets of states of an nfa that are reached, byte by byte over all 256, without the empty one; it stops at 500.
func meantSets(n api.Nfa) int {
	first := make([]bool, n.States)
	first[n.Start] = true
	reached(n, first)
	met := map[string]bool{written(first): true, written(make([]bool, n.States)): true}
	for waiting := [][]bool{first}; len(waiting) > 0 && len(met) <= 500; waiting = waiting[1:] {
		for b := range 256 {
			next := make([]bool, n.States)
			for _, e := range n.Edges {
				if !e.Free && in(e.Set, byte(b)) && waiting[0][e.From] {
					next[e.To] = true
				}
			}
			reached(n, next)
			if key := written(next); !met[key] {
				met[key] = true
				waiting = append(waiting, next)
			}
		}
	}
	return len(met) - 1
}

// meantReached counts the states of a dfa to which one can come from state 0, byte by byte.
func meantReached(d api.Dfa) int {
	marks := make([]bool, len(d.Next))
	marks[0] = true
	waiting := []int{0}
	for i := 0; i < len(waiting); i++ {
		for b := range 256 {
			if next := d.Next[waiting[i]][d.Class[b]]; next != -1 && !marks[next] {
				marks[next] = true
				waiting = append(waiting, next)
			}
		}
	}
	return len(waiting)
}
