package vm_test

import (
	"slices"
	"testing"

	"fretsaw/api"
	"fretsaw/vm"
)

// P22.1 to P22.3, P1: drawn programs, against the chapter's words; those that are Done with less fuel, too.
func TestDrawn(t *testing.T) {
	ends := [4]int{}
	tell, cut := 0, 0
	for n := range uint64(40000) {
		d := dice(10000 + n)
		p, input := drawnProgram(d), drawnInput(d)
		fuel := oneOf(d, 20, 60, 200)
		want := meantRun(p, input, fuel)
		checkEnd(t, p, input, fuel, want.end, want.used, want.ids...)
		ends[want.end]++
		if want.end != api.Done {
			continue
		}
		if len(want.ids) > 1 {
			tell++
		}
		if want.used < 60 {
			checkCut(t, p, input, want)
			cut++
		}
	}
	if ends[api.Done] < 12000 || ends[api.NoFuel] < 4000 || ends[api.Fault] < 4000 || tell < 3000 || cut < 8000 {
		t.Error("these show too little:", ends, tell, cut)
	}
}

// checkCut runs a program that was Done on each number of less fuel, and on more.
func checkCut(t *testing.T, p api.Program, input string, want ending) {
	t.Helper()
	used := 0
	for fuel := range want.used {
		l, end, u := vm.Run(p, input, fuel)
		if end != api.NoFuel || len(l) > 0 || u < used || u > fuel {
			t.Errorf("Run(%s, %q, %d) = %s, %d, %d, behind %d", show(p), input, fuel, show(l), end, u, used)
		}
		used = u
	}
	for _, fuel := range []int{want.used, want.used + 1, 2 * want.used, enough} {
		checkEnd(t, p, input, fuel, api.Done, want.used, want.ids...)
	}
}

// P22.3: what a run used on less fuel is what it used till some instruction: these are the sums of the first costs.
func TestCutAtCosts(t *testing.T) {
	p := program(load(0, 3), putText(0, 1), sign(0), sign(0), join(), turn(), next(1, 8), emit(1), halt())
	p.Texts = []string{"", "abc"}
	sums := []int{0, 1, 6, 7, 8, 17, 18, 19, 20, 21}
	for fuel := range 21 {
		at := 0
		for at+1 < len(sums) && sums[at+1] <= fuel {
			at++
		}
		checkRun(t, p, "", fuel, api.NoFuel, sums[at])
	}
	checkRun(t, p, "", 21, api.Done, 21, 3, 3, 'a')
}

// P1, P22.3: code of numbers that are all drawn from wild ones: it faults, or ends on its fuel.
func TestWildPrograms(t *testing.T) {
	wild := []int{0, 0, 0, 1, 1, 2, -1, 3, 7, 8, 255, 256, 1 << 31, 1<<63 - 1, -1 << 63}
	ends := [4]int{}
	for n := range uint64(20000) {
		d := dice(90000 + n)
		any := func() int { return wild[d.IntN(len(wild))] }
		p := api.Program{Grow: any(), Rest: any(), Extra: any(), Signs: any()}
		for range 1 + d.IntN(6) {
			p.Code = append(p.Code, api.Ins{Op: d.IntN(19), A: any(), B: any(), C: oneOf(d, d.IntN(5), any()), D: any()})
		}
		for range d.IntN(3) {
			p.Tables = append(p.Tables, api.Table{Cols: any(), Data: []int{any(), any(), any()}[:d.IntN(4)]})
		}
		p.Texts = []string{"", "a", "abc"}[:d.IntN(4)]
		p.Pairs = api.Hash{Seeds: []uint32{1, 2, 3}[:d.IntN(4)], Keys: []uint64{0, 1, 1 << 32}[:d.IntN(4)], Vals: []uint64{0, 1<<64 - 1, 1}[:d.IntN(4)]}
		input := drawnInput(d)
		fuel := oneOf(d, any()%50, d.IntN(50))
		want := meantRun(p, input, fuel)
		checkEnd(t, p, input, fuel, want.end, want.used, want.ids...)
		ends[want.end]++
	}
	if slices.Min(ends[:api.TooLong]) < 200 || ends[api.Fault] < 5000 {
		t.Error("these show too little:", ends)
	}
}
