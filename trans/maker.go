package trans

import "fretsaw/api"

// maker keeps a machine that is being made, by what its states are: texts that wait, or two states. They are met one after the other, from the first one on, so that each of them is reached.
type maker[S comparable] struct {
	plan    plan[S]
	states  []S            // by the numbers that they have in the machine
	numbers map[S]int      // of the states
	texts   map[string]int // of the texts: their numbers
	longest int            // bytes that a text has
	m       api.Machine
}

// plan is what a machine is to do: what it adds to out at a byte, and where it goes then, and what it adds at the end.
type plan[S comparable] struct {
	step func(out []byte, state S, b byte) ([]byte, S)
	end  func(out []byte, state S) []byte
}

// machine makes the one of a plan, if there is room for it.
func machine[S comparable](p plan[S], first S) (api.Machine, api.Errno) {
	k := &maker[S]{plan: p, numbers: map[S]int{}, texts: map[string]int{}}
	k.state(first)
	for i := 0; i < len(k.states); i++ {
		k.leave(k.states[i])
		if k.full() {
			return api.Machine{}, api.ErrStates
		}
	}
	return k.m, api.OK
}

// leave makes all that there is of a state.
func (k *maker[S]) leave(state S) {
	next, put := make([]int, all), make([]int, all)
	var out []byte
	for b := range all {
		var to S
		out, to = k.plan.step(out[:0], state, byte(b))
		next[b], put[b] = k.state(to), k.put(out, byte(b))
	}
	k.m.Next = append(k.m.Next, next)
	k.m.Put = append(k.m.Put, put)
	k.m.End = append(k.m.End, k.text(k.plan.end(out[:0], state)))
}

// full tells whether there is too much of anything.
func (k *maker[S]) full() bool {
	return len(k.states) > api.MaxMachine || len(k.m.Texts) > api.MaxTexts || k.longest > api.MaxText
}

// state is a state's number.
func (k *maker[S]) state(is S) int {
	n, found := k.numbers[is]
	if !found {
		n = len(k.states)
		k.numbers[is] = n
		k.states = append(k.states, is)
	}
	return n
}

// put tells of bytes, as a machine does, that they are put at b. What ends with b has the text ahead of it, so that bytes at which the same is put, and they themselves behind it, share one.
func (k *maker[S]) put(out []byte, b byte) int {
	if n := len(out) - 1; n >= 0 && out[n] == b {
		return 2*k.text(out[:n]) + 1
	}
	return 2 * k.text(out)
}

// text is a text's number.
func (k *maker[S]) text(is []byte) int {
	n, found := k.texts[string(is)]
	if !found {
		n = len(k.m.Texts)
		s := fresh(is)
		k.texts[s] = n
		k.m.Texts = append(k.m.Texts, s)
		k.longest = max(k.longest, len(s))
	}
	return n
}
