package vm_test

import (
	"math"
	"slices"
	"strings"
	"testing"

	"fretsaw/api"
	"fretsaw/vm"
)

// P22.2: a Text costs what it puts and one, so that fuel of one less is too little.
func TestCostOfText(t *testing.T) {
	for _, long := range []int{0, 1, 2, 7, 100, 4096, 4097} {
		for odd := range 2 {
			p := program(load(0, odd), putText(0, 1), halt())
			p.Texts = []string{strings.Repeat("x", long)}
			used := 1 + 1 + long + odd + 1
			checkRun(t, p, "", used, api.Done, used)
			checkRun(t, p, "", used+1, api.Done, used)
			checkRun(t, p, "", used-1, api.NoFuel, used-1)
			checkRun(t, p, "", used-2, api.NoFuel, 1)
			checkRun(t, p, "", 1, api.NoFuel, 1)
		}
	}
}

// P22.2: a Join costs one and four for each sign, however many are left of them.
func TestCostOfJoin(t *testing.T) {
	for _, many := range []int{0, 1, 2, 3, 50, 500} {
		code := append(slices.Repeat([]api.Ins{sign(0)}, many), join(), join(), halt())
		p := program(code...)
		used := many + 1 + 4*many + 1 + 1
		for _, pairs := range []api.Hash{{}, pairsOf(0, 0, 0, 0)} {
			p.Pairs = pairs
			left := many
			if len(pairs.Keys) > 0 {
				left = min(many, 1)
			}
			checkRun(t, p, "", used, api.Done, used, make([]int, left)...)
			checkRun(t, p, "", used-1, api.NoFuel, used-1)
			checkRun(t, p, "", used-2, api.NoFuel, used-2)
			checkRun(t, p, "", used-3, api.NoFuel, many)
			checkRun(t, p, "", many, api.NoFuel, many)
		}
	}
}

// filled is a program that puts so many bytes, by a text of 4096 as often as it fits and one of the rest, and goes on with these.
func filled(many int, code ...api.Ins) api.Program {
	p := program(slices.Repeat([]api.Ins{putText(1, 1)}, many/4096)...)
	p.Code = append(p.Code, load(2, 2), putText(2, 1))
	p.Code = append(p.Code, code...)
	p.Texts = []string{strings.Repeat("\xee", 4096), strings.Repeat("\xdd", many%4096), "", "y"}
	return p
}

// filling is what that uses.
func filling(many int) int { return many/4096 + 1 + many + 1 }

// P22.2: what is put, at 64 MaxInput bytes and one more, by Copy and by Text.
func TestRoomPut(t *testing.T) {
	const most = mostRoom
	plenty := 1 << 24
	for _, x := range []struct {
		many int
		code []api.Ins
		cost int // -1: no room
	}{
		{most - 1, []api.Ins{putByte(0)}, 1},
		{most, []api.Ins{putByte(0)}, -1},
		{most - 2, []api.Ins{putByte(0)}, 1},
		{most, []api.Ins{load(0, 4), putText(0, 0)}, 2},  // an empty text
		{most, []api.Ins{load(0, 5), putText(0, 0)}, -1}, // and a byte
		{most - 1, []api.Ins{load(0, 5), putText(0, 0)}, 3},
		{most - 1, []api.Ins{load(0, 6), putText(0, 0)}, 3},
		{most - 1, []api.Ins{load(0, 7), putText(0, 0)}, -1},
		{most - 2, []api.Ins{load(0, 7), putText(0, 0)}, 4},
		{most, []api.Ins{load(0, 6), putText(0, 0)}, -1},
		{most - 4096, []api.Ins{putText(1, 0)}, 4097},
		{most - 4095, []api.Ins{putText(1, 0)}, -1},
		{most, []api.Ins{turn(), putByte(0)}, 2}, // there is room again
		{most - 1, []api.Ins{putByte(0), turn(), putByte(0), turn()}, 4},
	} {
		used := filling(x.many)
		p := filled(x.many, append(x.code, halt())...)
		if x.cost < 0 {
			used += len(x.code) - 1
			checkEnd(t, p, "in", plenty, api.NoFuel, used)
		} else {
			used += x.cost + 1
			checkEnd(t, p, "in", plenty, api.Done, used)
			checkEnd(t, p, "in", used, api.Done, used)
			checkEnd(t, p, "in", used-1, api.NoFuel, used-1)
		}
	}
}

// P22.2: no room is looked at behind faults.
func TestRoomBehindFaults(t *testing.T) {
	plenty := 1 << 24
	used := filling(mostRoom)
	for _, code := range [][]api.Ins{
		{load(3, 256), putByte(3)}, {load(3, -1), putByte(3)}, {load(3, 8), putText(3, 1)}, {load(3, -1), putText(3, 1)}, {load(3, 256), load(4, 7), putText(4, 3)},
	} {
		checkEnd(t, filled(mostRoom, code...), "in", plenty, api.Fault, used+len(code)-1)
	}
	p := filled(mostRoom, load(3, 255), load(4, 7), putText(4, 3))
	checkEnd(t, p, "in", plenty, api.NoFuel, used+2)

	p = program(sign(0), jump(0))
	p.Signs = 1
	checkEnd(t, p, "", 1<<22, api.NoFuel, 2*mostRoom)
}

// P22.2: the text that is put is all there, and read from its beginning, however long it is.
func TestLongSource(t *testing.T) {
	p := filled(mostRoom)
	p.Code = append(p.Code, turn())
	p.Code = append(p.Code, read(len(p.Code))...)
	want := bytesOf(strings.Repeat("\xee", mostRoom))
	checkEnd(t, p, "in", 1<<24, api.Done, filling(mostRoom)+1+3*mostRoom+2, want...)
	p = filled(mostRoom - 3)
	p.Code = append(p.Code, turn())
	p.Code = append(p.Code, read(len(p.Code))...)
	want = append(bytesOf(strings.Repeat("\xee", mostRoom-4096)), bytesOf(strings.Repeat("\xdd", 4093))...)
	checkEnd(t, p, "in", 1<<24, api.Done, filling(mostRoom-3)+1+3*(mostRoom-3)+2, want...)
}

// P22.2: a text of a program may be any, but is put only if there is room.
func TestLongText(t *testing.T) {
	p := program(putText(0, 0), halt())
	p.Texts = []string{strings.Repeat("x", mostRoom)}
	checkEnd(t, p, "", 1<<24, api.Done, mostRoom+2)
	p.Texts = []string{strings.Repeat("x", mostRoom+1)}
	checkEnd(t, p, "", 1<<24, api.NoFuel, 0)
	p.Code = []api.Ins{load(1, 1), putText(1, 0), halt()}
	p.Texts = []string{strings.Repeat("x", mostRoom-1)}
	checkEnd(t, p, "", 1<<24, api.Done, mostRoom+3)
	p.Texts = []string{strings.Repeat("x", mostRoom)}
	checkEnd(t, p, "", 1<<24, api.NoFuel, 1)
}

// P22.2: signs, at 64 MaxInput of them and one more: 4 times 65536.
func TestRoomSigns(t *testing.T) {
	follows := api.Table{Cols: 1}
	for n := range mostSigns {
		follows.Data = append(follows.Data, n+1)
	}
	follows.Data[mostSigns-1] = -1
	again := func(times int, code ...api.Ins) api.Program { // goes through all signs so many times, by a table of what follows each
		p := program()
		p.Signs, p.Tables = mostSigns, []api.Table{follows}
		for n := range times {
			at := 5 * n
			p.Code = append(p.Code, load(0, 0), sign(0), look(0, 1, 0), same(0, -1, at+5), jump(at+1))
		}
		p.Code = append(p.Code, code...)
		return p
	}
	each := 4*mostSigns - 1 + 1 // no jump behind the last one, but a load ahead
	plenty := 1 << 24
	checkEnd(t, again(4, halt()), "", plenty, api.Done, 4*each+1)
	checkEnd(t, again(4, load(0, 0), sign(0), halt()), "", plenty, api.NoFuel, 4*each+1)
	checkEnd(t, again(4, load(0, 0), sign(0), halt()), "", 4*each, api.NoFuel, 4*each)
	checkEnd(t, again(4, sign(0), halt()), "", plenty, api.Fault, 4*each) // a fault is looked at ahead of the room

	var want []int
	for range 4 {
		for n := range mostSigns {
			want = append(want, n)
		}
	}
	used := 4*each + 1 + 4*mostRoom
	p := again(4, join(), load(0, 0), sign(0), halt())
	checkEnd(t, p, "", plenty, api.Done, used+3, want...)
	checkEnd(t, p, "", used-1, api.NoFuel, 4*each)
	p.Extra = mostRoom
	checkEnd(t, p, "", plenty, api.Done, used+3, want...)
	p.Extra = mostRoom - 1
	checkEnd(t, p, "", plenty, api.NoFuel, used)
	p.Pairs = pairsOf(7, 8, 0, 9)
	p.Extra = mostRoom - 4
	if l, end, _ := vm.Run(p, "", plenty); end != api.Done || len(l) != mostRoom-4 || !slices.Equal(l[:10], []int{0, 1, 2, 3, 4, 5, 6, 9, 9, 10}) {
		t.Error(show(l), len(l), end)
	}
	p.Extra = mostRoom - 5
	checkEnd(t, p, "", plenty, api.NoFuel, used)
}

// P22.2: how many ids may be told, by Grow, Rest and Extra, each of them below 0 and above 2^20.
func TestRoomTold(t *testing.T) {
	const big = mostGrow
	for _, x := range []struct{ grow, rest, extra, input, room int }{
		{0, 0, 0, 0, 0}, {0, 0, 0, 9, 0}, {1, 0, 0, 0, 0}, {1, 0, 0, 3, 3}, {5, 0, 0, 3, 15}, {0, 4, 0, 3, 4}, {0, 0, 4, 3, 4}, {2, 3, 4, 5, 17},
		{-1, 9, 9, 5, 18}, {2, -9, 9, 5, 19}, {2, 9, -9, 5, 19}, {-1, -1, -1, 5, 0},
		{math.MinInt, 1, 2, 5, 3}, {1, math.MinInt, 2, 5, 7}, {1, 2, math.MinInt, 5, 7}, {math.MinInt, math.MinInt, math.MinInt, 4096, 0},
		{big, 0, 0, 1, big}, {big - 1, 0, 0, 1, big - 1}, {big + 1, 0, 0, 1, big}, {math.MaxInt, 0, 0, 1, big}, {math.MaxInt, 0, 0, 0, 0},
		{0, big, 0, 1, big}, {0, big - 1, 0, 1, big - 1}, {0, big + 1, 0, 1, big}, {0, math.MaxInt, 0, 1, big},
		{0, 0, big, 1, big}, {0, 0, big - 1, 1, big - 1}, {0, 0, big + 1, 1, big}, {0, 0, math.MaxInt, 1, big},
		{1, 1, 1, 4096, 4098}, {math.MaxInt, math.MaxInt, math.MaxInt, 1, 3 * big},
	} {
		input := strings.Repeat("i", x.input)
		p := api.Program{Grow: x.grow, Rest: x.rest, Extra: x.extra, Signs: 1, Code: []api.Ins{emit(0), jump(0)}}
		checkEnd(t, p, input, 1<<24, api.NoFuel, 2*x.room)
		checkEnd(t, p, input, 2*x.room+1, api.NoFuel, 2*x.room)
		p.Code = []api.Ins{sign(0), join(), jump(0)}
		checkEnd(t, p, input, 1<<25, api.NoFuel, 7*x.room+6) // the last join is paid for
		p.Code = []api.Ins{join(), halt()}
		checkEnd(t, p, input, 9, api.Done, 2) // no signs need no room
		if x.room > 0 {
			p.Code = []api.Ins{emit(0), join(), halt()}
			checkEnd(t, p, input, 9, api.Done, 3, 0)
		}
	}
}

// P22.2: ids of Emit and of Join are counted together, and merges make fewer of them.
func TestRoomTogether(t *testing.T) {
	p := api.Program{Rest: 3, Signs: 3, Pairs: pairsOf(0, 0, 1, 1), Code: []api.Ins{emit(0), sign(0), sign(0), sign(0), join(), halt()}}
	checkRun(t, p, "", enough, api.Done, 18, 0, 1, 0)
	p.Rest = 2
	checkRun(t, p, "", enough, api.NoFuel, 17)
	p.Rest = 3
	p.Pairs = api.Hash{}
	checkRun(t, p, "", enough, api.NoFuel, 17)
	p.Rest = 4
	checkRun(t, p, "", enough, api.Done, 18, 0, 0, 0, 0)
	p.Code = []api.Ins{sign(0), sign(0), join(), emit(0), emit(0), emit(0), halt()}
	checkRun(t, p, "", enough, api.NoFuel, 13)
	p.Code = []api.Ins{sign(0), sign(0), join(), emit(0), emit(0), halt()}
	checkRun(t, p, "", enough, api.Done, 14, 0, 0, 0, 0)
}
