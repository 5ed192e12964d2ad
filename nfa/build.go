package nfa

import (
	"fretsaw/api"
	"fretsaw/regex"
)

const endless = -1 // a Max that bounds nothing

// Build makes an nfa that takes just what an expression takes.
func Build(t api.Re) (api.Nfa, api.Errno) {
	if e := regex.Right(t); e != api.OK {
		return api.Nfa{}, e
	}
	b := builder{api.Nfa{Start: 0, End: 1, States: 2}}
	b.lay(t, b.n.Start, b.n.End)
	if b.full() {
		return api.Nfa{}, api.ErrStates
	}
	return b.n, api.OK
}

// builder has an nfa that is being made.
type builder struct{ n api.Nfa }

func (b *builder) full() bool { return b.n.States > api.MaxNfa || len(b.n.Edges) > maxEdges }

func (b *builder) state() int {
	b.n.States++
	return b.n.States - 1
}

func (b *builder) over(s api.Set, from, to int) {
	b.n.Edges = append(b.n.Edges, api.Edge{From: from, To: to, Set: s})
}

func (b *builder) free(from, to int) {
	b.n.Edges = append(b.n.Edges, api.Edge{From: from, To: to, Free: true})
}

// lay puts an expression between two states, as if it were one edge: out of the first one, into the second one, and between them through new states only. So other expressions may stand at the same two, and both may be one state. It stops when the nfa is full, since times within times may ask for far more states than could be made.
func (b *builder) lay(t api.Re, from, to int) {
	if b.full() {
		return
	}
	switch t.Kind {
	case api.RSet:
		b.over(t.Set, from, to)
	case api.RCat:
		b.free(b.row(t.Kids, from), to)
	case api.RAlt:
		for _, kid := range t.Kids {
			b.lay(kid, from, to)
		}
	case api.RRep:
		if t.Max == endless {
			b.again(t.Kids[0], t.Min, from, to)
		} else {
			b.upTo(t.Kids[0], t.Min, t.Max, from, to)
		}
	}
}

// row lays expressions one behind the other, and answers the state behind the last one.
func (b *builder) row(l []api.Re, from int) int {
	for _, t := range l {
		from = b.one(t, from)
	}
	return from
}

// one lays an expression from a state to a new one.
func (b *builder) one(t api.Re, from int) int {
	to := b.state()
	b.lay(t, from, to)
	return to
}

// upTo lays an expression most times; from the least time on each may be the last one.
func (b *builder) upTo(t api.Re, least, most, from, to int) {
	for i := range most {
		if i >= least {
			b.free(from, to)
		}
		from = b.one(t, from)
	}
	b.free(from, to)
}

// again lays an expression so many times, and at least once, and a way back ahead of the last time: that needs no further copy of it, so that such expressions within one another stay small. If it may be left out, the way back is a state that is also the way on.
func (b *builder) again(t api.Re, least, from, to int) {
	for range least - 1 {
		from = b.one(t, from)
	}
	in := b.state()
	b.free(from, in)
	out := in
	if least > 0 {
		out = b.state()
		b.free(out, in)
	}
	b.lay(t, in, out)
	b.free(out, to)
}
