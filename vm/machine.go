package vm

import "fretsaw/api"

const goesOn = -1 // told among outcomes of runs: this one has not ended

// machine is a program at some instruction of its run.
type machine struct {
	code   []api.Ins
	tables []api.Table
	texts  []string
	most   int   // ids that may be told
	chain  chain // merges the signs of one Join after the other

	registers   [api.Registers]int
	marks       [api.Marks]int
	source, put []byte
	here        int
	signs, told []int
	at          int // where the next instruction stands
	fuel        int // what is left of it
}

// newMachine is at the beginning of a run.
func newMachine(p api.Program, input string, fuel int) *machine {
	return &machine{
		code:   p.Code,
		tables: p.Tables,
		texts:  p.Texts,
		most:   within(p.Grow, growing)*len(input) + within(p.Rest, growing) + within(p.Extra, growing),
		chain:  chain{pairs: p.Pairs, signs: within(p.Signs, api.MaxSigns)},
		source: []byte(input),
		fuel:   fuel,
	}
}

// run goes on till the run ends, and tells how. What may end it ahead of an instruction is looked at in the chapter's order: a fault, no room, no fuel.
func (m *machine) run() int {
	for isBelow(m.at, len(m.code)) {
		i := &m.code[m.at]
		if !isNamed(i) || !m.fits(i) {
			break
		}
		if !m.hasRoom(i) || !m.pay(m.cost(i)) {
			return api.NoFuel
		}
		m.at++
		if end := m.do(i); end != goesOn {
			return end
		}
	}
	return api.Fault
}

// do does an instruction that is paid for. The next one is the one behind it, unless it goes elsewhere.
func (m *machine) do(i *api.Ins) int {
	r := &m.registers
	named := i.A
	switch i.Op {
	case api.Halt:
		return api.Done
	case api.Load:
		r[i.A] = i.B
	case api.Move:
		r[i.A] = r[i.B]
	case api.Same:
		m.goIf(r[i.A] == i.B, i.C)
	case api.Less:
		m.goIf(r[i.A] < i.B, i.C)
	case api.Here:
		m.goIf(m.marks[i.A] == m.here, i.C)
	case api.Next:
		if m.here < len(m.source) {
			r[i.A] = int(m.source[m.here])
			m.here++
			break
		}
		fallthrough
	case api.Jump:
		m.at = i.C
	case api.Look:
		t := &m.tables[i.D]
		r[i.A] = t.Data[r[i.A]*t.Cols+r[i.B]]
	case api.Mark:
		m.marks[i.A] = m.here
	case api.Back:
		m.here = m.marks[i.A]
	case api.Text:
		v := r[i.A]
		m.put = append(m.put, m.texts[v/2]...)
		if v%2 == 0 {
			break
		}
		named = i.B
		fallthrough
	case api.Copy:
		m.put = append(m.put, byte(r[named]))
	case api.Turn:
		m.turn()
	case api.Sign:
		m.signs = append(m.signs, r[i.A])
	case api.Join:
		return m.join()
	case api.Emit:
		m.told = append(m.told, r[i.A])
	}
	return goesOn
}

// goIf goes to a place, if so it is.
func (m *machine) goIf(so bool, to int) {
	if so {
		m.at = to
	}
}

// turn reads what was put from its beginning. The old source's memory takes what will be put next.
func (m *machine) turn() {
	m.source, m.put = m.put, m.source[:0]
	m.here = 0
	m.marks = [api.Marks]int{}
}

// join merges the signs, and tells them all.
func (m *machine) join() int {
	if !m.chain.merge(m.signs) {
		return api.Fault
	}
	if m.chain.many > m.most-len(m.told) {
		return api.NoFuel
	}
	m.told = m.chain.left(m.told)
	m.signs = m.signs[:0]
	return goesOn
}
