package isa_test

import (
	"math"
	"testing"

	"fretsaw/api"
	"fretsaw/isa"
)

func checkRight(t *testing.T, i api.Ins, want bool) {
	t.Helper()
	if got := isa.Right(i); got != want {
		t.Errorf("Right(%+v) = %t; want %t", i, got, want)
	}
	if meant := meantRight(i); meant != want {
		t.Errorf("Right(%+v): meant is %t; want %t", i, meant, want)
	}
	e := api.ErrOp
	if want {
		e = api.OK
	}
	if s, got := isa.Put([]api.Ins{i}); got != e || (s == "") == want {
		t.Errorf("Put(%+v) = %q, %d; want %d", i, s, got, e)
	}
	if s, got := isa.Text([]api.Ins{i}); got != e || (s == "") == want {
		t.Errorf("Text(%+v) = %q, %d; want %d", i, s, got, e)
	}
}

// P21.1: each Op with each of its fields at both ends and one beyond, and with what is not named.
func TestRightFields(t *testing.T) {
	names := []string{"A", "B", "C", "D"}
	for _, r := range meantRows() {
		plain := api.Ins{Op: r.op}
		checkRight(t, plain, true)
		full := plain
		for at, name := range r.names {
			*fieldOf(&full, name) = meantMost(r.kinds[at])
		}
		checkRight(t, full, true)
		for _, name := range names {
			most := 0
			for at, named := range r.names {
				if named == name {
					most = meantMost(r.kinds[at])
				}
			}
			for _, i := range []api.Ins{plain, full} {
				for _, n := range []int{0, most, most / 2} {
					*fieldOf(&i, name) = n
					checkRight(t, i, true)
				}
				for _, n := range []int{-1, most + 1, most + 2, -most - 1, math.MaxInt, math.MinInt, 1 << 32, 1 << 40} {
					*fieldOf(&i, name) = n
					checkRight(t, i, false)
				}
			}
		}
	}
}

// P21.1: what is no Op.
func TestRightOps(t *testing.T) {
	for _, op := range []int{-1, 0, 18, 19, 17 + 32, 256, 257, 1 << 32, 1<<32 + 1, math.MaxInt, math.MinInt, math.MinInt + 1, -17} {
		checkRight(t, api.Ins{Op: op}, false)
		checkRight(t, api.Ins{Op: op, A: 1, B: 1, C: 1, D: 1}, false)
	}
	for op := -40; op < 300; op++ {
		checkRight(t, api.Ins{Op: op}, op >= 1 && op <= 17)
	}
}

// P21.1: the bounds, as the chapter's words tell them in numbers.
func TestRightBounds(t *testing.T) {
	for _, x := range []struct {
		i  api.Ins
		is bool
	}{
		{api.Ins{Op: api.Load, A: 7, B: 1073741824}, true}, {api.Ins{Op: api.Load, A: 8}, false}, {api.Ins{Op: api.Load, B: 1073741825}, false},
		{api.Ins{Op: api.Move, A: 7, B: 7}, true}, {api.Ins{Op: api.Move, B: 8}, false}, {api.Ins{Op: api.Jump, C: 4095}, true}, {api.Ins{Op: api.Jump, C: 4096}, false},
		{api.Ins{Op: api.Look, A: 1, B: 2, D: 15}, true}, {api.Ins{Op: api.Look, D: 16}, false}, {api.Ins{Op: api.Mark, A: 1}, true}, {api.Ins{Op: api.Mark, A: 2}, false}, {api.Ins{Op: api.Here, A: 2}, false},
		{api.Ins{Op: api.Halt, A: 1}, false}, {api.Ins{Op: api.Turn, C: 1}, false}, {api.Ins{Op: api.Join, D: -1}, false}, {api.Ins{Op: api.Emit, B: 1}, false}, {api.Ins{}, false},
	} {
		checkRight(t, x.i, x.is)
	}
}

// P21.1: drawn instructions, with fields that are changed.
func TestRightDrawn(t *testing.T) {
	found := map[bool]int{}
	for n := range uint64(6000) {
		d := dice(n)
		i := drawnIns(d)
		checkRight(t, i, true)
		for range 1 + d.IntN(2) {
			*one(d, &i.Op, &i.A, &i.B, &i.C, &i.D) = one(d, 0, 0, 0, d.IntN(20), 1, 2, 7, 8, 15, 16, 4095, 4096, 1<<30, 1<<30+1, -1)
		}
		is := meantRight(i)
		found[is]++
		checkRight(t, i, is)
	}
	if found[true] < 1000 || found[false] < 1000 {
		t.Error("these show too little:", found)
	}
}
