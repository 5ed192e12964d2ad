package dfa

import (
	"fretsaw/api"
	"fretsaw/nfa"
	"fretsaw/set"
)

const eight = 8 // bits in one byte of a text of bits

// Build makes a dfa that takes just what an nfa takes. Its states are the sets of states in which the nfa may be at one time.
func Build(n api.Nfa) (api.Dfa, api.Errno) {
	if !nfa.Right(n) {
		return api.Dfa{}, api.ErrArg
	}
	b := newBuilder(n)
	b.begin()
	for state := 0; state < len(b.sets); state++ {
		row := b.row(b.sets[state])
		if len(b.sets) > api.MaxStates {
			return api.Dfa{}, api.ErrStates
		}
		b.d.Next = append(b.d.Next, row)
	}
	return b.d, api.OK
}

// builder has a dfa that is being made.
type builder struct {
	n       api.Nfa
	over    [][]api.Edge   // of a state: its edges that are not Free
	free    [][]int        // of a state: where its Free edges lead
	least   []byte         // of a class: its least byte, which stands for all of them
	sets    [][]int        // by the number that each has as a state of the dfa: its states, rising
	numbers map[string]int // the same numbers, by the sets' texts; that of the empty set is none
	d       api.Dfa
}

func newBuilder(n api.Nfa) *builder {
	b := &builder{n: n, over: make([][]api.Edge, n.States), free: make([][]int, n.States)}
	b.numbers = map[string]int{b.text(b.nowhere(), 0): none}
	var parts []api.Set
	for _, e := range n.Edges {
		if e.Free {
			b.free[e.From] = append(b.free[e.From], e.To)
		} else {
			b.over[e.From] = append(b.over[e.From], e)
			parts = append(parts, e.Set)
		}
	}
	b.d.Class, _ = set.Classes(parts)
	for i, class := range b.d.Class {
		if int(class) == len(b.least) {
			b.least = append(b.least, byte(i))
		}
	}
	return b
}

// reach tells of each state the bytes over which it is reached from a set. It holds all bytes at once, since an edge mostly leads over many of them.
type reach []api.Set

func (b *builder) nowhere() reach { return make(reach, b.n.States) }

// begin numbers the set in which it all begins, before any byte: as if it were reached over each.
func (b *builder) begin() {
	r, every := b.nowhere(), set.Range(0, 255)
	for _, state := range nfa.Free(b.n, []int{b.n.Start}) {
		r[state] = every
	}
	b.number(b.text(r, 0))
}

// row is, class by class, where a set of states goes.
func (b *builder) row(l []int) []int {
	r := b.step(l)
	row := make([]int, len(b.least))
	for class, one := range b.least {
		row[class] = b.number(b.text(r, one))
	}
	return row
}

// step goes from a set over each byte, and from where it comes to over Free edges.
func (b *builder) step(l []int) reach {
	r := b.nowhere()
	for _, state := range l {
		for _, e := range b.over[state] {
			r[e.To] = set.Join(r[e.To], e.Set)
		}
	}
	b.spread(r)
	return r
}

// spread goes over Free edges from each state that is reached. A state waits again when it has got more bytes: so rings come to an end.
func (b *builder) spread(r reach) {
	var waiting []int
	for state, over := range r {
		if over != (api.Set{}) {
			waiting = append(waiting, state)
		}
	}
	for len(waiting) > 0 {
		last := len(waiting) - 1
		state := waiting[last]
		waiting = waiting[:last]
		for _, to := range b.free[state] {
			if more := set.Join(r[to], r[state]); more != r[to] {
				r[to] = more
				waiting = append(waiting, to)
			}
		}
	}
}

// text writes the set of the states that are reached over a byte: a bit for each state, so that a set has one text only.
func (b *builder) text(r reach, one byte) string {
	bits := make([]byte, (b.n.States+eight-1)/eight)
	for state := range b.n.States {
		if set.Has(r[state], one) {
			bits[state/eight] |= 1 << (state % eight)
		}
	}
	return string(bits)
}

// number is the state of the dfa that a set is, by its text: a new one, if the set was not met yet.
func (b *builder) number(text string) int {
	n, found := b.numbers[text]
	if !found {
		n = len(b.sets)
		b.numbers[text] = n
		b.sets = append(b.sets, b.states(text))
		b.d.Accept = append(b.d.Accept, has(text, b.n.End))
	}
	return n
}

// states puts a set into its order: its states, rising.
func (b *builder) states(text string) []int {
	var l []int
	for state := range b.n.States {
		if has(text, state) {
			l = append(l, state)
		}
	}
	return l
}

func has(text string, state int) bool { return text[state/eight]>>(state%eight)&1 == 1 }
