package ir_test

import (
	"math"
	"slices"
	"strings"
	"testing"

	"fretsaw/api"
	"fretsaw/ir"
)

// checkFit asks whether stages fit, and of Eval no ids, if they do not: whatever the text.
func checkFit(t *testing.T, g []api.Stage, want bool) {
	t.Helper()
	if ir.Right(g) != want || meantRight(g) != want {
		t.Errorf("Right(%s) = %t, and is meant to be %t; want %t", showStages(g), ir.Right(g), meantRight(g), want)
	}
	if want {
		checkMeant(t, g, "ab c")
		return
	}
	for _, s := range []string{"", "ab c\xff", strings.Repeat("a", mostInput), strings.Repeat("a", mostInput+1)} {
		checkEvalFails(t, g, s, api.ErrGraph)
	}
}

// full is a stage of this kind that has all that any kind needs.
func full(kind int) api.Stage {
	s := api.Stage{Kind: kind, Machine: plainMachine(1), Dfa: plainDfa(1, 1), Map: plainMap(), Merges: pairs('a', 'b'), Drop: []int{0}, Before: []int{1}, After: []int{2}}
	return s
}

// fullRow is stages of these kinds.
func fullRow(kinds ...int) (g []api.Stage) {
	for _, kind := range kinds {
		g = append(g, full(kind))
	}
	return g
}

// P19.1: stages in each order, of up to six, and of one that is none among them.
func TestRightEachOrder(t *testing.T) {
	rows := [][]int{{}}
	fit := 0
	for i := 0; i < len(rows); i++ {
		g := fullRow(rows[i]...)
		want := meantRight(g)
		if got := ir.Right(g); got != want {
			t.Errorf("Right of kinds %v = %t", rows[i], got)
		}
		if want {
			fit++
		}
		for kind := 0; kind <= 4 && len(rows[i]) < 6; kind++ {
			rows = append(rows, append(slices.Clone(rows[i]), kind))
		}
	}
	if fit != 4 { // with 0 to 3 of SMap
		t.Error("so many fit:", fit)
	}
}

// P19.1: how many of SMap there may be.
func TestRightMaps(t *testing.T) {
	if api.MaxPasses != 4 || api.MaxFrame != 32 || 64*api.MaxInput != mostText {
		t.Error("the limits are", api.MaxPasses, api.MaxFrame, api.MaxInput)
	}
	checkFit(t, nil, false)
	checkFit(t, []api.Stage{}, false)
	checkFit(t, make([]api.Stage, 3), false)
	for maps := range 12 {
		kinds := append(slices.Repeat([]int{api.SMap}, maps), api.SSplit, api.SMerge, api.SFrame)
		checkFit(t, fullRow(kinds...), maps <= 4)
		checkFit(t, fullRow(kinds[:maps]...), false)
	}
	checkFit(t, make([]api.Stage, 1<<12), false)
	checkFit(t, fullRow(slices.Repeat([]int{api.SMap}, 300)...), false)
}

// P19.1: each stage left out, doubled, and changed for each other one.
func TestRightPlaces(t *testing.T) {
	for maps := range 5 {
		g := fullRow(append(slices.Repeat([]int{api.SMap}, maps), api.SSplit, api.SMerge, api.SFrame)...)
		checkFit(t, g, true)
		for i := range g {
			one := g[i].Kind == api.SMap
			checkFit(t, slices.Concat(g[:i], g[i+1:]), one)
			checkFit(t, slices.Concat(g[:i+1], g[i:]), one && maps < 4)
			for j := range g[:i] {
				other := slices.Clone(g)
				other[i], other[j] = other[j], other[i]
				checkFit(t, other, one) // one of SMap for another one
			}
			for kind := range 6 {
				other := slices.Clone(g)
				other[i].Kind = kind
				checkFit(t, other, kind == g[i].Kind)
			}
		}
	}
}

// P19.1: kinds that are none.
func TestRightKinds(t *testing.T) {
	for _, kind := range []int{0, -1, -2, 5, 6, 255, 257, 258, 259, 260, 1<<16 + 1, 1<<32 + 1, 1<<32 + 2, 1<<32 + 3, 1<<32 + 4, math.MinInt, math.MaxInt} {
		g := fullRow(api.SMap, api.SMap, api.SSplit, api.SMerge, api.SFrame)
		for i := range g {
			other := slices.Clone(g)
			other[i].Kind = kind
			checkFit(t, other, false)
			checkFit(t, slices.Insert(slices.Clone(g), i, full(kind)), false)
		}
		checkFit(t, append(g, full(kind)), false)
	}
}

// wrongMachines is machines that may not be.
func wrongMachines() (l []api.Machine) {
	l = append(l, api.Machine{}, plainMachine(0), plainMachine(1201))
	for _, harm := range []func(m *api.Machine){
		func(m *api.Machine) { m.Next = m.Next[:2] },
		func(m *api.Machine) { m.Put = m.Put[:2] },
		func(m *api.Machine) { m.End = append(m.End, 0) },
		func(m *api.Machine) { m.Next[2] = m.Next[2][:255] },
		func(m *api.Machine) { m.Put[1] = append(m.Put[1], 0) },
		func(m *api.Machine) { m.Next[0][255] = 3 },
		func(m *api.Machine) { m.Next[2][0] = -1 },
		func(m *api.Machine) { m.Put[0]['a'] = 2 },
		func(m *api.Machine) { m.Put[2][255] = -1 },
		func(m *api.Machine) { m.End[1] = 1 },
		func(m *api.Machine) { m.End[2] = math.MinInt },
		func(m *api.Machine) { m.Texts = nil },
		func(m *api.Machine) { m.Texts = append(m.Texts, strings.Repeat("a", 4097)) },
		func(m *api.Machine) { m.Texts = make([]string, 4097) },
	} {
		m := plainMachine(3)
		harm(&m)
		l = append(l, m)
	}
	return l
}

// P19.1: the Machine of each SMap may be.
func TestRightMachine(t *testing.T) {
	great := plainMachine(1200)
	great.Texts = append(make([]string, 4095), strings.Repeat("a", 4096))
	for maps := 1; maps <= 4; maps++ {
		for i := range maps {
			machines := slices.Repeat([]api.Machine{plainMachine(1)}, maps)
			for _, m := range wrongMachines() {
				machines[i] = m
				checkFit(t, row(machines...), false)
			}
			machines[i] = great
			checkFit(t, row(machines...), true)
		}
	}
}

// wrongDfas is dfas that may not be.
func wrongDfas() (l []api.Dfa) {
	l = append(l, api.Dfa{}, plainDfa(0, 1), plainDfa(1, 0), plainDfa(401, 1), plainDfa(2, 257))
	for _, harm := range []func(d *api.Dfa){
		func(d *api.Dfa) { d.Next = d.Next[:2] },
		func(d *api.Dfa) { d.Accept = append(d.Accept, true) },
		func(d *api.Dfa) { d.Accept = nil },
		func(d *api.Dfa) { d.Next[2] = nil },
		func(d *api.Dfa) { d.Next[1] = append(d.Next[1], -1) },
		func(d *api.Dfa) { d.Next[2][1] = 3 },
		func(d *api.Dfa) { d.Next[0][0] = -2 },
		func(d *api.Dfa) { d.Next[0][1] = math.MaxInt },
		func(d *api.Dfa) { d.Class[255] = 2 },
		func(d *api.Dfa) { d.Class['a'] = 255 },
	} {
		d := plainDfa(3, 2)
		harm(&d)
		l = append(l, d)
	}
	return l
}

// P19.1: the Dfa of the SSplit may be; its Map is any.
func TestRightDfa(t *testing.T) {
	for _, d := range wrongDfas() {
		checkFit(t, of(row(), theSplit, func(s *api.Stage) { s.Dfa = d }), false)
		checkFit(t, of(row(plainMachine(1), plainMachine(2)), theSplit, func(s *api.Stage) { s.Dfa = d }), false)
	}
	for _, d := range []api.Dfa{plainDfa(1, 1), plainDfa(400, 256), plainDfa(400, 1), plainDfa(1, 256)} {
		checkFit(t, of(row(), theSplit, func(s *api.Stage) { s.Dfa = d }), true)
		checkFit(t, of(row(), theSplit, func(s *api.Stage) { s.Dfa, s.Map = d, [256]uint8{} }), true)
	}
}

// P19.1: the Merges of the SMerge may be.
func TestRightMerges(t *testing.T) {
	for _, l := range [][]api.Merge{
		twoByTwo(1025), pairs('a', 'b', 'a', 'b'), pairs('a', 256), pairs(256, 'a'), pairs('a', 'b', 257, 'c'), pairs(-1, 'a'), pairs('a', -1), doubled('a', 7),
		pairs('a', 'b', 'b', 'c', 256, 'c', 'a', 257), pairs(math.MaxInt, 'a'), pairs('a', math.MinInt), slices.Repeat(pairs('a', 'a'), 5000),
	} {
		checkFit(t, of(row(), theMerge, func(s *api.Stage) { s.Merges = l }), false)
		checkFit(t, of(row(), theMerge, func(s *api.Stage) { s.Merges, s.Drop = l, []int{0} }), false)
	}
	for _, l := range [][]api.Merge{nil, {}, pairs('a', 'b'), twoByTwo(1023), twoByTwo(1024), doubled('a', 6)} {
		checkFit(t, of(row(), theMerge, func(s *api.Stage) { s.Merges = l }), true)
	}
}

// P19.1: Drop rises, from 0 to the last merge's number.
func TestRightDrop(t *testing.T) {
	for many, l := range map[int][]api.Merge{0: nil, 1: pairs('a', 'b'), 2: pairs('a', 'b', 256, 'c'), 6: doubled('a', 6), 1024: twoByTwo(1024)} {
		check := func(want bool, drop ...int) {
			t.Helper()
			checkFit(t, of(row(), theMerge, func(s *api.Stage) { s.Merges, s.Drop = l, drop }), want)
		}
		check(true)
		check(true, upTo(many)...)
		check(false, upTo(many+1)...)
		for _, k := range []int{0, 1, many / 2, many - 1} {
			check(k >= 0 && k < many, k)
			check(false, k, k)
			check(k > 0 && k < many, 0, k)
			check(false, k, 0)
		}
		for _, k := range []int{-1, many, many + 1, 255, 256, 256 + many - 1, math.MinInt, math.MaxInt} {
			check(k >= 0 && k < many, k)
			check(false, append(upTo(many), k)...)
			check(false, k, -1)
		}
		check(false, -1, 0)
		check(false, append([]int{-1}, upTo(many)...)...)
	}
	for _, drop := range [][]int{{1, 0}, {0, 2, 1}, {0, 1, 1}, {0, 0, 1}, {3, 4, 5, 0}, {5, 4, 3, 2, 1, 0}, {0, 1, 2, 3, 4, 5, 5}, {0, 1, 2, 3, 4, 5, 6}} {
		checkFit(t, of(row(), theMerge, func(s *api.Stage) { s.Merges, s.Drop = doubled('a', 6), drop }), false)
	}
	for _, drop := range [][]int{{0, 5}, {1, 2, 4}, {0, 2, 3, 5}} {
		checkFit(t, of(row(), theMerge, func(s *api.Stage) { s.Merges, s.Drop = doubled('a', 6), drop }), true)
	}
}

// P19.1: how many may stand before and after, and which.
func TestRightFrame(t *testing.T) {
	check := func(want bool, l ...int) {
		t.Helper()
		checkFit(t, of(row(), theFrame, func(s *api.Stage) { s.Before = l }), want)
		checkFit(t, of(row(), theFrame, func(s *api.Stage) { s.After = l }), want)
		checkFit(t, of(row(), theFrame, func(s *api.Stage) { s.Before, s.After = l, l }), want)
		checkFit(t, of(row(), theFrame, func(s *api.Stage) { s.Before, s.After = l, nil }), want)
		checkFit(t, of(row(), theFrame, func(s *api.Stage) { s.Before, s.After = nil, l }), want)
	}
	for many := range 40 {
		check(many <= 32, make([]int, many)...)
		check(many <= 32, slices.Repeat([]int{65535}, many)...)
	}
	check(false, make([]int, 1<<16)...)
	for _, id := range []int{0, 1, 255, 256, 32767, 32768, 65534, 65535} {
		check(true, id)
		check(true, append(make([]int, 31), id)...)
	}
	for _, id := range []int{-1, -2, -65536, 65536, 65537, 1 << 31, 1 << 32, math.MinInt, math.MaxInt} {
		check(false, id)
		check(false, id, 5)
		check(false, 5, id)
		check(false, append(make([]int, 31), id)...)
		check(false, 1, id, 2)
	}
}

// P19.1, R3: fields that a kind does not need are not looked at.
func TestRightUnneeded(t *testing.T) {
	clean := row(times(2, 1), instead('x', 'a'))
	for i, s := range clean {
		for _, m := range wrongMachines()[:8] {
			if s.Kind != api.SMap {
				s.Machine = m
			}
			if s.Kind != api.SSplit {
				s.Dfa = wrongDfas()[5]
				s.Map = [256]uint8{'a': 'q', 'b': 'q'}
			}
			if s.Kind != api.SMerge {
				s.Merges, s.Drop = pairs(-1, 'a', 'a', 999), []int{-5, 9, 3, 3}
			}
			if s.Kind != api.SFrame {
				s.Before, s.After = []int{-7, 1 << 40}, make([]int, 99)
			}
			g := slices.Clone(clean)
			g[i] = s
			checkFit(t, g, true)
			for _, s := range []string{"", "ab", "xbabcx c", strings.Repeat("x", 50)} {
				want, _ := ir.Eval(clean, s)
				checkEval(t, g, s, want...)
			}
		}
	}
}

// P19.1: stages that are drawn, and then harmed.
func TestRightDrawn(t *testing.T) {
	fit := 0
	for i := range uint64(3000) {
		d := dice(20000 + i)
		g := drawnStages(d)
		if !ir.Right(g) || !meantRight(g) {
			t.Fatal("at", i, showStages(g))
		}
		s := &g[d.IntN(len(g))]
		at := d.IntN(len(g))
		number := one(d, -2, -1, 0, 1, 2, 3, 5, 31, 32, 255, 256, 400, 65535, 65536)
		switch d.IntN(9) {
		case 0:
			s.Kind = number
		case 1:
			g = slices.Delete(g, at, at+1)
		case 2:
			g = slices.Insert(g, at, g[d.IntN(len(g))])
		case 3:
			g[len(g)-1].Before = append(g[len(g)-1].Before, number)
		case 4:
			g[len(g)-1].After = append([]int{number}, g[len(g)-1].After...)
		case 5:
			g[len(g)-2].Drop = append(g[len(g)-2].Drop, number)
		case 6:
			g[len(g)-2].Merges = append(g[len(g)-2].Merges, api.Merge{Left: 'a', Right: number})
		case 7:
			split := &g[len(g)-3]
			split.Dfa.Next[0][0] = number
		case 8:
			g[0].Machine = drawnMachine(d)
			g[0].Machine.Put[0][d.IntN(256)] = number
		}
		want := meantRight(g)
		if want {
			fit++
		}
		if got := ir.Right(g); got != want {
			t.Errorf("at %d: Right(%s) = %t", i, showStages(g), got)
		}
	}
	if fit < 300 || fit > 2700 {
		t.Error("these show too little:", fit)
	}
}
