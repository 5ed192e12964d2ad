package vm_test

import (
	"math"
	"slices"
	"strings"
	"testing"

	"fretsaw/api"
	"fretsaw/vm"
)

const enough = 1 << 20 // of fuel, for all that is small

// program is one of this code, with room for what it tells.
func program(code ...api.Ins) api.Program {
	return api.Program{Extra: mostGrow, Signs: 300, Code: code}
}

// checkRun holds a run against what is asked, and against the chapter's words.
func checkRun(t *testing.T, p api.Program, input string, fuel, end, used int, ids ...int) {
	t.Helper()
	checkEnd(t, p, input, fuel, end, used, ids...)
	if m := meantRun(p, input, fuel); m.end != end || m.used != used || !slices.Equal(m.ids, ids) {
		t.Errorf("Run(%s, %q, %d): meant is %s; want %s, %d, %d", show(p), input, fuel, show(m), show(ids), end, used)
	}
}

// checkEnd holds a run against what is asked alone: for what is great.
func checkEnd(t *testing.T, p api.Program, input string, fuel, end, used int, ids ...int) {
	t.Helper()
	l, e, u := vm.Run(p, input, fuel)
	if e != end || u != used || !slices.Equal(l, ids) {
		t.Errorf("Run(%s, %.80q, %d) = %s, %d, %d; want %s, %d, %d", show(p), input, fuel, show(l), e, u, show(ids), end, used)
	}
}

// checkTells runs a program that is Done.
func checkTells(t *testing.T, p api.Program, input string, ids ...int) {
	t.Helper()
	l, end, used := vm.Run(p, input, enough)
	if end != api.Done || !slices.Equal(l, ids) {
		t.Errorf("Run(%s, %q) = %s, %d; want %s", show(p), input, show(l), end, show(ids))
	}
	if m := meantRun(p, input, enough); m.end != end || m.used != used || !slices.Equal(m.ids, ids) {
		t.Errorf("Run(%s, %q): meant is %s; want %s, %d", show(p), input, show(m), show(ids), used)
	}
}

// checkFaults runs a program that faults, having used so much.
func checkFaults(t *testing.T, p api.Program, input string, used int) {
	t.Helper()
	checkRun(t, p, input, enough, api.Fault, used)
}

// told is the chapter's first program: it tells its input's bytes.
func told() api.Program {
	return api.Program{Grow: 1, Code: []api.Ins{next(0, 3), emit(0), jump(0), halt()}}
}

// The chapter's examples.
func TestExamples(t *testing.T) {
	checkRun(t, told(), "ab", enough, api.Done, 8, 'a', 'b')
	checkRun(t, told(), "ab", 7, api.NoFuel, 7)
	checkRun(t, api.Program{Code: []api.Ins{emit(0), halt()}}, "", enough, api.NoFuel, 0)
	checkRun(t, api.Program{Code: []api.Ins{putByte(9)}}, "", enough, api.Fault, 0)
}

// P22.2: fuel of any number; less of it cuts the run off, more changes nothing (P22.3).
func TestFuel(t *testing.T) {
	for _, fuel := range []int{math.MinInt, -mostFuel, -1, 0} {
		checkRun(t, told(), "ab", fuel, api.NoFuel, 0)
	}
	for fuel := range 8 {
		checkRun(t, told(), "ab", fuel, api.NoFuel, fuel)
	}
	for _, fuel := range []int{8, 9, 10, 1000, mostFuel - 1, mostFuel, mostFuel + 1, 1 << 50, math.MaxInt} {
		checkRun(t, told(), "ab", fuel, api.Done, 8, 'a', 'b')
	}
	for _, fuel := range []int{1, 2, 3, 1000, 100001} {
		checkRun(t, program(jump(0)), "", fuel, api.NoFuel, fuel)
	}
	checkRun(t, program(halt()), "", 0, api.NoFuel, 0)
	checkRun(t, program(halt()), "", 1, api.Done, 1)
}

// P22.2: the input's length.
func TestInput(t *testing.T) {
	long := strings.Repeat("\xff", mostInput)
	ids := slices.Repeat([]int{255}, mostInput)
	checkEnd(t, told(), long, enough, api.Done, 3*mostInput+2, ids...)
	for _, p := range []api.Program{told(), {}, program(), program(putByte(9)), program(halt())} {
		for _, more := range []string{"a", "ab", long} {
			for _, fuel := range []int{math.MinInt, 0, enough, math.MaxInt} {
				checkEnd(t, p, long+more, fuel, api.TooLong, 0)
			}
		}
	}
	for b := range 256 {
		checkTells(t, told(), string([]byte{byte(b), 'x'}), b, 'x')
	}
	checkRun(t, told(), "", enough, api.Done, 2)
}

// wildPlaces are places of a code of so many instructions at which there is none.
func wildPlaces(code int) []int {
	return []int{-1, math.MinInt, code, code + 1, api.MaxCode, math.MaxInt}
}

// P22.2: a place with no instruction, gone to by each instruction that goes somewhere. It is not looked at by one that does not go.
func TestPlaces(t *testing.T) {
	for _, p := range []api.Program{{}, program(), {Code: []api.Ins{}, Grow: 5}} {
		for _, fuel := range []int{-1, 0, 1, enough} {
			checkRun(t, p, "ab", fuel, api.Fault, 0)
		}
	}
	for _, c := range wildPlaces(3) {
		for _, i := range []api.Ins{jump(c), same(0, 0, c), less(0, 1, c), next(0, c), here(0, c)} {
			p := program(i, emit(0), halt())
			checkFaults(t, p, "", 1)
			checkRun(t, p, "", 1, api.Fault, 1) // at a place with nothing, ahead of the cost
			checkRun(t, p, "", 0, api.NoFuel, 0)
		}
		checkTells(t, program(same(0, 1, c), emit(0), halt()), "", 0)
		checkTells(t, program(less(0, 0, c), emit(0), halt()), "", 0)
		checkTells(t, program(next(0, c), emit(0), halt()), "q", 'q')
		checkTells(t, program(next(0, c), here(0, c), emit(0), halt()), "q", 'q')
	}
	checkFaults(t, program(load(0, 1)), "", 1) // the end of the code is not that of the run
	checkFaults(t, program(load(0, 1), jump(3), halt()), "", 2)
	checkTells(t, program(jump(3), emit(0), halt(), load(0, 5), jump(1)), "", 5)
}

// P22.2: what is used till a run faults or finds no room.
func TestUsedTillThen(t *testing.T) {
	for n := range 30 {
		code := slices.Repeat([]api.Ins{load(1, 2)}, n)
		p := program(append(code, putByte(8), halt())...)
		checkFaults(t, p, "", n)
		checkRun(t, p, "", n, api.Fault, n)
		if n > 0 {
			checkRun(t, p, "", n-1, api.NoFuel, n-1)
		}
		p = api.Program{Rest: 3, Code: append(code, emit(0), emit(0), emit(0), emit(0))}
		checkRun(t, p, "", enough, api.NoFuel, n+3)
		p.Code[n+3] = halt()
		checkRun(t, p, "", enough, api.Done, n+4, 0, 0, 0)
	}
}
