package trans

import "fretsaw/api"

// Then makes a machine of two, the second one behind the first one. Its states are those in which both may be at one time.
func Then(a, b api.Machine) (api.Machine, api.Errno) {
	if !Right(a) || !Right(b) {
		return api.Machine{}, api.ErrMachine
	}
	c := chain{a: a, b: b}
	return machine(plan[pair]{step: c.step, end: c.end}, pair{})
}

// pair is a state of each.
type pair struct{ a, b int }

// chain hands what a puts on to b.
type chain struct{ a, b api.Machine }

// maxPut is how many bytes may be put at one byte: a text, and the byte itself.
const maxPut = api.MaxText + 1

func (c *chain) step(out []byte, at pair, b byte) ([]byte, pair) {
	put := c.a.Put[at.a][b]
	out, state := along(&c.b, out, at.b, c.a.Texts[put/2], maxPut)
	if put%2 == 1 {
		out, state = over(&c.b, out, state, b)
	}
	return out, pair{c.a.Next[at.a][b], state}
}

func (c *chain) end(out []byte, at pair) []byte {
	out, state := along(&c.b, out, at.b, c.a.Texts[c.a.End[at.a]], maxPut)
	return finish(&c.b, out, state)
}
