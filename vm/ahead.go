package vm

import (
	"fretsaw/api"
	"fretsaw/heap"
)

// isNamed tells whether an instruction's Op is one, and the registers and marks that it names are there. Numbers and places may be any.
func isNamed(i *api.Ins) bool {
	switch i.Op {
	case api.Move, api.Look, api.Text:
		if !isBelow(i.B, api.Registers) {
			return false
		}
		fallthrough
	case api.Load, api.Same, api.Less, api.Next, api.Copy, api.Sign, api.Emit:
		return isBelow(i.A, api.Registers)
	case api.Mark, api.Back, api.Here:
		return isBelow(i.A, api.Marks)
	case api.Halt, api.Jump, api.Turn, api.Join:
		return true
	}
	return false
}

// isBelow tells whether n is from 0 to below most.
func isBelow(n, most int) bool {
	return n >= 0 && n < most
}

// fits tells whether what the named registers hold is what an instruction may be done with.
func (m *machine) fits(i *api.Ins) bool {
	named := i.A
	switch i.Op {
	case api.Look:
		return m.isInTable(i)
	case api.Text:
		v := m.registers[i.A]
		if v < 0 || v/2 >= len(m.texts) {
			return false
		}
		if v%2 == 0 {
			return true
		}
		named = i.B
		fallthrough
	case api.Copy:
		return isBelow(m.registers[named], 256)
	case api.Sign:
		return isBelow(m.registers[named], m.chain.signs)
	}
	return true
}

// isInTable tells whether there is a table, row and column of a Look.
func (m *machine) isInTable(i *api.Ins) bool {
	if !isBelow(i.D, len(m.tables)) {
		return false
	}
	t := &m.tables[i.D]
	return t.Cols >= 1 && isBelow(m.registers[i.A], len(t.Data)/t.Cols) && isBelow(m.registers[i.B], t.Cols)
}

// hasRoom tells whether there is room for what an instruction puts, or tells, or for one sign more. What a Join tells is known only when it is done.
func (m *machine) hasRoom(i *api.Ins) bool {
	switch i.Op {
	case api.Copy, api.Text:
		return m.puts(i) <= longest-len(m.put)
	case api.Sign:
		return len(m.signs) < longest
	case api.Emit:
		return len(m.told) < m.most
	}
	return true
}

// puts is how many bytes an instruction puts.
func (m *machine) puts(i *api.Ins) int {
	if i.Op != api.Text {
		return 1
	}
	v := m.registers[i.A]
	return len(m.texts[v/2]) + v%2
}

// cost is the fuel that an instruction takes.
func (m *machine) cost(i *api.Ins) int {
	switch i.Op {
	case api.Text:
		return 1 + m.puts(i)
	case api.Join:
		return heap.Cost(len(m.signs))
	}
	return 1
}

// pay uses fuel, if there is as much.
func (m *machine) pay(cost int) bool {
	if cost > m.fuel {
		return false
	}
	m.fuel -= cost
	return true
}
