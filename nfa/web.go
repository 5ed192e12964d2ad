package nfa

import (
	"iter"

	"fretsaw/api"
)

const none = -1

// web finds the edges of a state without looking at those of others: each edge is followed by another one that goes from the same state.
type web struct {
	edges []api.Edge
	first []int // of a state: the place of the first of its edges, or none
	next  []int // of an edge: the place of the one that follows it, or none
}

func weave(n api.Nfa) web {
	w := web{edges: n.Edges, first: make([]int, n.States), next: make([]int, len(n.Edges))}
	for state := range w.first {
		w.first[state] = none
	}
	for i, e := range n.Edges {
		w.next[i] = w.first[e.From]
		w.first[e.From] = i
	}
	return w
}

// from hands on the edges that go from a state.
func (w web) from(state int) iter.Seq[api.Edge] {
	return func(yield func(api.Edge) bool) {
		for i := w.first[state]; i != none; i = w.next[i] {
			if !yield(w.edges[i]) {
				return
			}
		}
	}
}
