package piece

import "fretsaw/api"

const (
	none = -1 // no state
	word = 64 // bits in one number
)

// walk goes along a text by a dfa that may be. It keeps from where it went on in vain, and does not go on from there again: else a text of a alone, by `a*b`, would be gone through to its end from each place (dfa.Longest, which keeps nothing, would do so).
type walk struct {
	d     api.Dfa
	s     string
	vain  []uint64 // a bit for each place and each state there: whether nothing is taken from there on, not even the empty text
	since []int    // the states, place by place, in which the walk was behind the last one that accepts
}

func newWalk(d api.Dfa, s string) *walk {
	bits := (len(s) + 1) * len(d.Next)
	return &walk{d: d, s: s, vain: make([]uint64, bits/word+1)}
}

// longest is the last place to which the dfa takes the text from a place on; if there is none, a place ahead of that one.
func (w *walk) longest(from int) int {
	last := from - 1
	w.since = w.since[:0]
	for at, state := from, 0; state != none && !w.isVain(at, state); at++ {
		w.since = append(w.since, state)
		if w.d.Accept[state] {
			last = at
			w.since = w.since[:0]
		}
		state = w.next(at, state)
	}
	for i, state := range w.since {
		w.setVain(last+1+i, state)
	}
	return last
}

// next is the state to which a state goes by the byte at a place; none at the end of the text.
func (w *walk) next(at, state int) int {
	if at == len(w.s) {
		return none
	}
	return w.d.Next[state][w.d.Class[w.s[at]]]
}

func (w *walk) isVain(at, state int) bool {
	bit := w.bit(at, state)
	return w.vain[bit/word]>>(bit%word)&1 == 1
}

func (w *walk) setVain(at, state int) {
	bit := w.bit(at, state)
	w.vain[bit/word] |= 1 << (bit % word)
}

func (w *walk) bit(at, state int) int { return at*len(w.d.Next) + state }
