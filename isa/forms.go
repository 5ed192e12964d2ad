package isa

import "fretsaw/api"

// Kinds of fields. A field that is not named is one of none, so that only 0 fits there.
const (
	none = iota
	register
	mark
	table
	place
	number
)

// kinds tells, of each kind of fields, the sign ahead of it in a line, and the greatest one.
var kinds = [...]struct {
	sign string
	most int
}{
	none:     {"", 0},
	register: {"r", api.Registers - 1},
	mark:     {"m", api.Marks - 1},
	table:    {"t", api.MaxTables - 1},
	place:    {"@", api.MaxCode - 1},
	number:   {"", api.MaxNumber},
}

// forms tells, of each Op, its word, and the kinds of its fields A, B, C and D. The Op 0 is none: it has no word.
var forms = [...]struct {
	word   string
	fields [4]int
}{
	api.Halt: {"halt", [4]int{}},
	api.Load: {"load", [4]int{register, number}},
	api.Move: {"move", [4]int{register, register}},
	api.Jump: {"jump", [4]int{none, none, place}},
	api.Same: {"same", [4]int{register, number, place}},
	api.Less: {"less", [4]int{register, number, place}},
	api.Next: {"next", [4]int{register, none, place}},
	api.Look: {"look", [4]int{register, register, none, table}},
	api.Mark: {"mark", [4]int{mark}},
	api.Back: {"back", [4]int{mark}},
	api.Here: {"here", [4]int{mark, none, place}},
	api.Copy: {"copy", [4]int{register}},
	api.Text: {"text", [4]int{register, register}},
	api.Turn: {"turn", [4]int{}},
	api.Sign: {"sign", [4]int{register}},
	api.Join: {"join", [4]int{}},
	api.Emit: {"emit", [4]int{register}},
}

// fields is an instruction's A, B, C and D.
func fields(i api.Ins) [4]int { return [4]int{i.A, i.B, i.C, i.D} }

// made is the instruction of an Op and of its A, B, C and D.
func made(op int, numbers [4]int) api.Ins {
	return api.Ins{Op: op, A: numbers[0], B: numbers[1], C: numbers[2], D: numbers[3]}
}
