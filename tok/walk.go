package tok

import "fretsaw/api"

const word = 64 // bits in one number

// walk takes a text apart by an nfa. It keeps in which states it has been at which place, and goes on from none of them again: they lead to no end behind that of the last piece, or this would have ended there. Else a text of a alone, by `a*b`, would be gone through to its end from each place (nfa.Ends, which keeps nothing, would do so).
type walk struct {
	n     api.Nfa
	edges [][]api.Edge // by the state from which they go
	s     string
	from  int      // where the next piece begins
	wide  int      // how many numbers hold a bit for each state
	seen  []uint64 // so many for each place: the states in which the walk has been there
}

func newWalk(n api.Nfa, s string) *walk {
	w := &walk{n: n, edges: make([][]api.Edge, n.States), s: s, wide: n.States/word + 1}
	w.seen = make([]uint64, (len(s)+1)*w.wide)
	for _, e := range n.Edges {
		w.edges[e.From] = append(w.edges[e.From], e)
	}
	return w
}

// piece is the next one; the empty text, if there is none left.
func (w *walk) piece() string {
	if w.from == len(w.s) {
		return ""
	}
	from := w.from
	w.from = max(w.longest(), from+1) // one byte is a piece where no longer one is taken
	return w.s[from:w.from]
}

// longest is the last place to which the nfa takes the text from the next piece's beginning on; if there is none, that beginning.
func (w *walk) longest() int {
	last := w.from
	var next []int
	here := w.enter(nil, w.from, w.n.Start)
	for at := w.from; len(here) > 0; at++ {
		if w.wasIn(at, w.n.End) {
			last = at
		}
		here, next = w.step(next[:0], at, here), here
	}
	return last
}

// step puts the states to which others go by the byte at a place behind a list.
func (w *walk) step(l []int, at int, here []int) []int {
	if at == len(w.s) {
		return l
	}
	for _, state := range here {
		for _, e := range w.edges[state] {
			if !e.Free && has(e.Set, w.s[at]) {
				l = w.enter(l, at+1, e.To)
			}
		}
	}
	return l
}

// enter puts a state, and what is reached from it over Free edges, behind a list, but for those in which the walk has been at the place.
func (w *walk) enter(l []int, at, state int) []int {
	i := len(l)
	for l = w.mark(l, at, state); i < len(l); i++ {
		for _, e := range w.edges[l[i]] {
			if e.Free {
				l = w.mark(l, at, e.To)
			}
		}
	}
	return l
}

func (w *walk) mark(l []int, at, state int) []int {
	if w.wasIn(at, state) {
		return l
	}
	w.row(at)[state/word] |= 1 << (state % word)
	return append(l, state)
}

func (w *walk) wasIn(at, state int) bool {
	return w.row(at)[state/word]>>(state%word)&1 == 1
}

func (w *walk) row(at int) []uint64 { return w.seen[at*w.wide : (at+1)*w.wide] }

func has(s api.Set, b byte) bool { return s.S[b/word]>>(b%word)&1 == 1 }
