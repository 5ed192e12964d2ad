package vm_test

import (
	"math"
	"slices"
	"strings"
	"testing"

	"fretsaw/api"
)

// wild are numbers that are no register's, and the ends of registers.
var wildRegisters = []int{-1, 8, 9, math.MinInt, math.MaxInt}

// setup puts 10 to 17 into the registers.
func setup() (code []api.Ins) {
	for a := range 8 {
		code = append(code, load(a, 10+a))
	}
	return code
}

// dump tells all registers.
func dump() (code []api.Ins) {
	for a := range 8 {
		code = append(code, emit(a))
	}
	return append(code, halt())
}

// dumped is a program that does these, and tells all registers.
func dumped(code ...api.Ins) api.Program {
	return program(slices.Concat(setup(), code, dump())...)
}

// registers are 10 to 17, but for some: by twos, a register and a number.
func registers(l ...int) []int {
	out := []int{10, 11, 12, 13, 14, 15, 16, 17}
	for ; len(l) > 0; l = l[2:] {
		out[l[0]] = l[1]
	}
	return out
}

// read is code that tells the bytes of the source, from here on, and ends: it stands at a place.
func read(at int) []api.Ins {
	return []api.Ins{next(7, at+3), emit(7), jump(at), halt()}
}

// puts is a program that does these, turns, and tells what was put.
func puts(code ...api.Ins) api.Program {
	code = append(code, turn())
	return program(append(code, read(len(code))...)...)
}

// bytesOf is a text's bytes as ids.
func bytesOf(s string) (ids []int) {
	for _, b := range []byte(s) {
		ids = append(ids, int(b))
	}
	return ids
}

// each is one of each Op, which may be done at once, and goes on to the next one.
func each() []api.Ins {
	return []api.Ins{load(1, 2), move(1, 2), jump(1), same(1, 9, 1), less(1, 0, 1), next(1, 1), look(1, 2, 0), mark(1), back(1), here(1, 1), putByte(1), putText(1, 2), turn(), sign(1), join(), emit(1)}
}

// withAll is a program of one instruction and a halt, with all that one may need.
func withAll(i api.Ins) api.Program {
	p := program(i, halt())
	p.Tables = []api.Table{{Cols: 1, Data: []int{7}}}
	p.Texts = []string{"ab"}
	return p
}

// Each Op may be done; its fields that are not named are not looked at (R3).
func TestEachOp(t *testing.T) {
	fields := []func(i *api.Ins) *int{
		func(i *api.Ins) *int { return &i.A }, func(i *api.Ins) *int { return &i.B },
		func(i *api.Ins) *int { return &i.C }, func(i *api.Ins) *int { return &i.D },
	}
	named := []string{"", "", "AB", "AB", "C", "ABC", "ABC", "AC", "ABD", "A", "A", "AC", "A", "AB", "", "A", "", "A"}
	for _, i := range append(each(), halt()) {
		want := meantRun(withAll(i), "ab", enough)
		if want.end != api.Done {
			t.Errorf("%+v is not done: %s", i, show(want))
		}
		checkRun(t, withAll(i), "ab", enough, api.Done, want.used, want.ids...)
		for at, field := range fields {
			if strings.ContainsRune(named[i.Op], rune('A'+at)) {
				continue
			}
			for _, n := range []int{-1, 1, 2, 8, 255, 4096, math.MinInt, math.MaxInt} {
				j := i
				*field(&j) = n
				checkRun(t, withAll(j), "ab", enough, api.Done, want.used, want.ids...)
			}
		}
	}
}

// P22.2: an Op that is none, whatever its fields.
func TestNoOp(t *testing.T) {
	for _, op := range []int{0, -1, 18, 19, 255, 256 + api.Halt, 1<<32 + api.Halt, -api.Halt, math.MinInt, math.MaxInt} {
		for _, n := range []int{0, 1, -1} {
			p := program(load(0, 1), api.Ins{Op: op, A: n, B: n, C: n, D: n}, halt())
			checkFaults(t, p, "ab", 1)
			checkRun(t, p, "ab", 1, api.Fault, 1)
			checkRun(t, p, "ab", 0, api.NoFuel, 0)
		}
	}
}

// P22.2: registers and marks that are not there are faults, ahead of the cost; the first and the last one may be named.
func TestNamed(t *testing.T) {
	first := []func(a int) api.Ins{
		func(a int) api.Ins { return load(a, 1) }, func(a int) api.Ins { return move(a, 1) },
		func(a int) api.Ins { return same(a, 0, 1) }, func(a int) api.Ins { return less(a, 0, 1) },
		func(a int) api.Ins { return next(a, 1) }, func(a int) api.Ins { return look(a, 1, 0) },
		func(a int) api.Ins { return putByte(a) }, func(a int) api.Ins { return putText(a, 1) },
		func(a int) api.Ins { return sign(a) }, func(a int) api.Ins { return emit(a) },
	}
	second := []func(b int) api.Ins{
		func(b int) api.Ins { return move(1, b) }, func(b int) api.Ins { return look(1, b, 0) },
		func(b int) api.Ins { return putText(1, b) }, // though the text's number is even
	}
	for _, make := range append(first, second...) {
		for _, a := range wildRegisters {
			checkFaults(t, withAll(make(a)), "ab", 0)
			checkRun(t, withAll(make(a)), "ab", 0, api.Fault, 0)
		}
		for _, a := range []int{0, 7} {
			if m := meantRun(withAll(make(a)), "ab", enough); m.end != api.Done {
				t.Errorf("%+v: %s", make(a), show(m))
			} else {
				checkRun(t, withAll(make(a)), "ab", enough, api.Done, m.used, m.ids...)
			}
		}
	}
	for _, i := range []api.Ins{mark(0), back(0), here(0, 1)} {
		for _, a := range []int{-1, 2, 3, 7, math.MinInt, math.MaxInt} {
			i.A = a
			checkFaults(t, withAll(i), "ab", 0)
			checkRun(t, withAll(i), "ab", 0, api.Fault, 0)
		}
		i.A = 1
		checkRun(t, withAll(i), "ab", enough, api.Done, 2)
	}
}

// Load, Move: one register is another number, and no other one is.
func TestLoadMove(t *testing.T) {
	checkTells(t, program(dump()...), "ab", make([]int, 8)...)
	for a := range 8 {
		for _, n := range []int{0, 1, -1, 255, 256, 1 << 30, 1<<30 + 1, math.MinInt, math.MaxInt} {
			checkTells(t, dumped(load(a, n)), "", registers(a, n)...)
			checkTells(t, dumped(load(a, n), move((a+3)%8, a)), "", registers(a, n, (a+3)%8, n)...)
		}
		for b := range 8 {
			checkTells(t, dumped(move(a, b)), "", registers(a, 10+b)...)
		}
	}
}

// Jump, Same, Less: where they go, and that nothing else is changed.
func TestGoing(t *testing.T) {
	numbers := []int{0, 1, -1, 5, 255, 256, 1 << 30, math.MinInt, math.MinInt + 1, math.MaxInt - 1, math.MaxInt}
	for _, n := range numbers {
		for _, b := range numbers {
			for _, x := range []struct {
				i    api.Ins
				goes bool
			}{{jump(11), true}, {same(3, b, 11), n == b}, {less(3, b, 11), n < b}} {
				want := registers(3, n, 0, 99)
				if x.goes {
					want[0] = 10
				}
				checkTells(t, dumped(load(3, n), x.i, load(0, 99)), "", want...)
			}
		}
	}
	checkTells(t, program(jump(3), emit(0), halt(), load(0, 1), jump(1)), "", 1) // back, too
	checkTells(t, program(load(1, 3), same(1, 0, 7), emit(1), same(1, 2, 8), load(1, 2), less(1, 3, 2), halt(), halt(), load(1, 0), jump(1)), "", 3, 2)
}

// Next: all bytes, in their order, and then the end, again and again.
func TestNext(t *testing.T) {
	checkTells(t, dumped(next(2, 0), next(5, 0)), "\x00\xff", registers(2, 0, 5, 255)...)
	checkTells(t, dumped(next(2, 9), next(2, 10), next(2, 11)), "x", registers(2, 'x')...)
	checkTells(t, program(next(0, 5), next(0, 5), emit(0), next(0, 6), emit(0), halt(), emit(0), next(0, 5), emit(1)), "ab", 'b', 'b')
}

// Look: what stands in a table, its ends, and beyond them.
func TestLook(t *testing.T) {
	asks := func(data []int, cols, row, column int) api.Program {
		p := program(load(1, row), load(2, column), look(1, 2, 1), emit(1), emit(2), halt())
		p.Tables = []api.Table{{Cols: 9, Data: make([]int, 900)}, {Cols: cols, Data: data}, {Cols: 9, Data: make([]int, 900)}}
		return p
	}
	data := []int{50, 51, 52, 53, 54, 55, 56} // no whole number of rows, mostly
	for cols := 1; cols <= 8; cols++ {
		rows := 7 / cols
		for row := -1; row <= rows+1; row++ {
			for column := -1; column <= cols+1; column++ {
				if row >= 0 && row < rows && column >= 0 && column < cols {
					checkTells(t, asks(data, cols, row, column), "", 50+row*cols+column, column)
				} else {
					checkFaults(t, asks(data, cols, row, column), "", 2)
				}
			}
		}
	}
	wild := []int{0, 1, -1, math.MinInt, math.MaxInt, 1 << 32, 1 << 62}
	for _, cols := range []int{0, -1, -7, math.MinInt, math.MaxInt, 1 << 40} {
		for _, row := range wild {
			for _, column := range wild {
				checkFaults(t, asks(data, cols, row, column), "", 2)
				checkFaults(t, asks(nil, cols, row, column), "", 2)
			}
		}
	}
	for _, n := range wild[2:] {
		checkFaults(t, asks(data, 1, n, 0), "", 2)
		checkFaults(t, asks(data, 7, 0, n), "", 2)
		checkTells(t, asks([]int{0, n}, 2, 0, 1), "", n, 1)
	}
	checkFaults(t, asks(nil, 1, 0, 0), "", 2)
	checkFaults(t, asks(data[:2], 3, 0, 0), "", 2) // not a whole row
}

// Look: which table, and registers that are the same one.
func TestLookTables(t *testing.T) {
	for many := range 20 {
		p := program(look(1, 2, 0), emit(1), halt())
		for n := range many {
			p.Tables = append(p.Tables, api.Table{Cols: 1, Data: []int{100 + n}})
		}
		for n := range many {
			p.Code[0].D = n
			checkTells(t, p, "", 100+n)
		}
		for _, n := range []int{-1, many, many + 1, math.MinInt, math.MaxInt} {
			p.Code[0].D = n
			checkFaults(t, p, "", 0)
			checkRun(t, p, "", 0, api.Fault, 0)
		}
	}
	p := dumped(load(4, 2), look(4, 4, 0))
	p.Tables = []api.Table{{Cols: 3, Data: []int{0, 1, 2, 3, 4, 5, 6, 7, 8}}}
	checkTells(t, p, "", registers(4, 8)...)
	p = dumped(load(4, 2), load(5, 1), look(5, 4, 0))
	p.Tables = []api.Table{{Cols: 3, Data: []int{0, 1, 2, 3, 4, 5, 6, 7, 8}}}
	checkTells(t, p, "", registers(4, 2, 5, 5)...)
}

// Mark, Back, Here: two marks, each of its own.
func TestMarks(t *testing.T) {
	at := func(code ...api.Ins) api.Program { // tells the bytes that are still ahead
		code = append(code, next(0, len(code)+3), emit(0), jump(len(code)), halt())
		return program(code...)
	}
	checkTells(t, at(), "abcd", bytesOf("abcd")...)
	checkTells(t, at(next(0, 0), next(0, 0), mark(0), next(0, 0)), "abcd", 'd')
	checkTells(t, at(next(0, 0), next(0, 0), mark(0), next(0, 0), back(0)), "abcd", bytesOf("cd")...)
	checkTells(t, at(next(0, 0), next(0, 0), mark(0), next(0, 0), back(1)), "abcd", bytesOf("abcd")...)
	checkTells(t, at(next(0, 0), mark(1), next(0, 0), mark(0), back(1)), "abcd", bytesOf("bcd")...)
	checkTells(t, at(next(0, 0), mark(1), next(0, 0), mark(0), back(1), back(0)), "abcd", bytesOf("cd")...)
	checkTells(t, at(next(0, 0), mark(0), back(1), mark(1), next(0, 0), next(0, 0), back(0)), "abcd", bytesOf("bcd")...)

	is := func(a int, code ...api.Ins) api.Program { // tells 1, if here is the mark a
		n := len(code)
		return program(append(code, here(a, n+3), emit(6), halt(), load(6, 1), emit(6), halt())...)
	}
	checkTells(t, is(0), "ab", 1)
	checkTells(t, is(1), "ab", 1)
	checkTells(t, is(0, next(0, 0)), "ab", 0)
	checkTells(t, is(1, next(0, 0)), "ab", 0)
	checkTells(t, is(0, next(0, 0), mark(0)), "ab", 1)
	checkTells(t, is(1, next(0, 0), mark(0)), "ab", 0)
	checkTells(t, is(0, next(0, 0), mark(1)), "ab", 0)
	checkTells(t, is(1, next(0, 0), mark(1), next(0, 0), back(1)), "ab", 1)
	checkTells(t, is(0, next(0, 0), next(0, 0), mark(0), next(0, 4)), "ab", 1) // at the end
}

// Copy: a byte, or a fault ahead of the cost.
func TestCopy(t *testing.T) {
	for b := range 256 {
		checkTells(t, puts(load(3, b), putByte(3)), "input", b)
	}
	for _, n := range []int{-1, 256, 257, 512, -256, math.MinInt, math.MaxInt, 1 << 32} {
		checkFaults(t, puts(load(3, n), putByte(3)), "input", 1)
		checkRun(t, puts(load(3, n), putByte(3)), "input", 1, api.Fault, 1)
	}
	checkTells(t, puts(load(0, 'a'), putByte(0), load(1, 'b'), putByte(1), putByte(0), putByte(2)), "", 'a', 'b', 'a', 0)
}

// putsText is a program that puts the text of a number, and perhaps a byte.
func putsText(texts []string, v, b int) api.Program {
	p := puts(load(2, v), load(5, b), putText(2, 5))
	p.Texts = texts
	return p
}

// Text: each number of each text, even and odd, and beyond.
func TestText(t *testing.T) {
	texts := []string{"", "a", "bc", "\xff\x00", ""}
	for many := range len(texts) + 1 {
		for number, s := range texts[:many] {
			for _, b := range []int{-1, 256, math.MinInt, math.MaxInt} {
				checkTells(t, putsText(texts[:many], 2*number, b), "in", bytesOf(s)...)
				checkFaults(t, putsText(texts[:many], 2*number+1, b), "in", 2)
				checkRun(t, putsText(texts[:many], 2*number+1, b), "in", 2, api.Fault, 2)
			}
			for _, b := range []int{0, 'z', 255} {
				checkTells(t, putsText(texts[:many], 2*number, b), "in", bytesOf(s)...)
				checkTells(t, putsText(texts[:many], 2*number+1, b), "in", bytesOf(s+string([]byte{byte(b)}))...)
			}
		}
		for _, v := range []int{-1, -2, -3, math.MinInt, math.MinInt + 1, 2 * many, 2*many + 1, 2*many + 2, math.MaxInt - 1, math.MaxInt} {
			for _, b := range []int{0, -1, 256} {
				checkFaults(t, putsText(texts[:many], v, b), "in", 2)
				checkRun(t, putsText(texts[:many], v, b), "in", 2, api.Fault, 2)
			}
		}
	}
	p := puts(load(1, 3), putText(1, 1)) // one register that is both
	p.Texts = []string{"", "ab"}
	checkTells(t, p, "", 'a', 'b', 3)
}

// Turn: what was put is the source, and nothing else is left; registers, signs and ids are.
func TestTurn(t *testing.T) {
	checkTells(t, puts(), "input")
	checkTells(t, puts(turn()), "input")
	checkTells(t, puts(load(0, 'a'), putByte(0), turn()), "input")
	checkTells(t, puts(load(0, 'a'), putByte(0), turn(), load(0, 'b'), putByte(0), putByte(0)), "input", 'b', 'b')
	checkTells(t, puts(next(0, 0), next(1, 0), putByte(1), turn(), next(2, 0), putByte(2), putByte(0)), "xy", 'y', 'x')
	for a := range 2 {
		checkTells(t, puts(next(0, 0), next(0, 0), mark(a), next(0, 0), putByte(0), putByte(0), putByte(0), turn(), next(1, 0), back(a), next(2, 0), next(3, 0), putByte(3), next(3, 0), putByte(3)), "abc", 'c', 'c')
		p := program(next(0, 0), mark(a), turn(), here(a, 5), halt(), emit(0), halt()) // here is the mark again
		checkTells(t, p, "abc", 'a')
		p = program(next(0, 0), turn(), here(a, 4), halt(), emit(0), halt())
		checkTells(t, p, "abc", 'a')
	}
	p := program(load(0, 'a'), sign(0), emit(0), putByte(0), turn(), join(), next(1, 0), emit(1), halt())
	p.Pairs = pairsOf('a', 'a', 0, 'b')
	checkTells(t, p, "", 'a', 'a', 'a')
	p = program(slices.Concat(setup(), []api.Ins{turn()}, dump())...)
	checkTells(t, p, "abc", registers()...)
	checkRun(t, program(turn(), turn(), halt()), "", enough, api.Done, 3)
}

// A source may be made of itself, again and again, each time of what was put last.
func TestTurns(t *testing.T) {
	code := []api.Ins{load(1, 0)}
	for range 5 {
		n := len(code)
		code = append(code, next(0, n+4), putByte(0), putByte(0), jump(n), turn())
	}
	code = append(code, read(len(code))...)
	want := ""
	for _, b := range "abc" {
		want += strings.Repeat(string(b), 32)
	}
	checkTells(t, program(code...), "abc", bytesOf(want)...)
}

// Sign: which numbers are signs.
func TestSign(t *testing.T) {
	asks := func(signs, n int) api.Program {
		p := program(load(3, n), sign(3), join(), halt())
		p.Signs = signs
		return p
	}
	for _, signs := range []int{0, -1, -5, math.MinInt, 1, 2, 256, 300, mostSigns - 1, mostSigns, mostSigns + 1, 1 << 40, math.MaxInt} {
		most := clamped(signs, mostSigns)
		for _, n := range []int{0, 1, 2, most - 2, most - 1, most, most + 1, -1, math.MinInt, math.MaxInt, 1 << 32} {
			if n >= 0 && n < most {
				checkTells(t, asks(signs, n), "", n)
			} else {
				checkFaults(t, asks(signs, n), "", 1)
				checkRun(t, asks(signs, n), "", 1, api.Fault, 1)
			}
		}
	}
}

// Join, Emit: what is told, in order; signs wait till they are joined, and are none then.
func TestJoinEmit(t *testing.T) {
	for _, n := range []int{0, 1, -1, 299, 300, math.MinInt, math.MaxInt} {
		checkTells(t, program(load(2, n), emit(2), halt()), "", n)
	}
	p := program(load(0, 'a'), load(1, 'b'), sign(0), sign(1), emit(1), sign(0), join(), emit(0), join(), sign(1), join(), sign(0), halt())
	checkTells(t, p, "", 'b', 'a', 'b', 'a', 'a', 'b')
	p.Pairs = pairsOf('a', 'b', 0, 256)
	checkTells(t, p, "", 'b', 256, 'a', 'a', 'b')
	p.Pairs = pairsOf('b', 'a', 0, 256, 'a', 256, 1, 299)
	checkTells(t, p, "", 'b', 299, 'a', 'b') // nothing is merged over a join
}

// Join: a sign that becomes what is none, behind the cost.
func TestJoinFaults(t *testing.T) {
	for _, signs := range []int{2, 3, 256, mostSigns - 1, mostSigns, mostSigns + 1, math.MaxInt} {
		most := clamped(signs, mostSigns)
		for _, becomes := range []int{0, 1, most - 1, most, most + 1, 1<<32 - 1} {
			p := program(load(0, 1), sign(0), sign(0), join(), halt())
			p.Signs = signs
			p.Pairs = pairsOf(1, 1, 5, uint64(becomes))
			if becomes < most {
				checkRun(t, p, "", enough, api.Done, 13, becomes)
				continue
			}
			checkFaults(t, p, "", 12)
			checkRun(t, p, "", 12, api.Fault, 12)
			checkRun(t, p, "", 11, api.NoFuel, 3)
			p.Extra = 0 // a fault is found ahead of no room
			checkRun(t, p, "", enough, api.Fault, 12)
		}
	}
}
