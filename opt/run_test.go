package opt_test

import (
	"math"
	"slices"
	"strings"
	"testing"

	"fretsaw/api"
	"fretsaw/ir"
	"fretsaw/mini"
	"fretsaw/opt"
	"fretsaw/trans"
)

// machinesOf is those that stages have.
func machinesOf(g []api.Stage) (l []api.Machine) {
	for _, s := range g {
		if s.Kind == api.SMap {
			l = append(l, s.Machine)
		}
	}
	return l
}

// checkMachines asks which machines are left behind passes, and that nothing else is changed.
func checkMachines(t *testing.T, g []api.Stage, passes int, want ...api.Machine) {
	t.Helper()
	got := checkRun(t, g, passes)
	if !slices.EqualFunc(machinesOf(got), want, sameMachine) {
		t.Errorf("Run(%s, %d) = %s; want %d machines", showStages(g), passes, showStages(got), len(want))
	}
	if len(got) < 3 || !slices.EqualFunc(got[len(got)-3:], g[len(g)-3:], sameStage) {
		t.Errorf("Run(%s, %d) = %s: more is changed than the machines", showStages(g), passes, showStages(got))
	}
}

// checkMapped asks which machines are left behind Bytes, and what the splitter's Map has.
func checkMapped(t *testing.T, g []api.Stage, to [256]uint8, want ...api.Machine) {
	t.Helper()
	got := checkRun(t, g, 4)
	if !slices.EqualFunc(machinesOf(got), want, sameMachine) {
		t.Errorf("Run(%s, 4) = %s; want %d machines", showStages(g), showStages(got), len(want))
	}
	g = of(g[len(g)-3:], theSplit, func(s *api.Stage) { s.Map = to })
	if len(got) < 3 || !slices.EqualFunc(got[len(got)-3:], g, sameStage) {
		t.Errorf("Run(%s, 4) has another Map, or something else", showStages(g))
	}
}

// checkDrop asks which merges are left out behind Dead, and that nothing else is changed.
func checkDrop(t *testing.T, g []api.Stage, want ...int) {
	t.Helper()
	got := checkRun(t, g, 16)
	if len(got) != len(g) || !slices.Equal(got[len(got)-2].Drop, want) {
		t.Errorf("Run(%s, 16) = %s; want Drop %v", showStages(g), showStages(got), want)
		return
	}
	if !slices.EqualFunc(got, of(g, theMerge, func(s *api.Stage) { s.Drop = want }), sameStage) {
		t.Errorf("Run(%s, 16) = %s: more is changed than Drop", showStages(g), showStages(got))
	}
}

// The chapter's examples.
func TestExamples(t *testing.T) {
	end := `split [a-z]+/merge "a" "b"/merge "ab" "c"`
	g := checkRun(t, lowered(`pass/rule "a" -> "b"/pass/rule "b" -> "c"/`+end), 1)
	if l := machinesOf(g); len(g) != 4 || len(l) != 1 {
		t.Error("two machines become", showStages(g))
	} else if to, is := trans.Bytes(l[0]); !is || to != mapOf('a', 'c', 'b', 'c') {
		t.Error("a and b become", to, is)
	}
	if g := checkRun(t, lowered(`pass/`+end), 2); len(g) != 3 || g[0].Kind != api.SSplit {
		t.Error("no rules are left as", showStages(g))
	}
	if g := checkRun(t, lowered(`pass/rule "a" -> "b"/`+end), 4); len(g) != 3 || g[0].Map != mapOf('a', 'b') {
		t.Error("a to b becomes", showStages(g))
	}
	if g := checkRun(t, lowered(`pass/rule "b" -> "x"/`+end), 16); len(g) != 4 || !slices.Equal(g[2].Drop, []int{0, 1}) {
		t.Error("without b, there is", showStages(g))
	}
}

// The passes' bits.
func TestPasses(t *testing.T) {
	if l := []int{opt.Fuse, opt.Empty, opt.Bytes, opt.Least, opt.Dead, opt.All}; !slices.Equal(l, []int{1, 2, 4, 8, 16, 31}) {
		t.Error("the passes are", l)
	}
}

// unfit is stages that do not fit, each for one reason.
func unfit() [][]api.Stage {
	good := row(plainMachine(1))
	bad := [][]api.Stage{nil, {}, make([]api.Stage, 4), good[1:3], good[2:], good[:3], good[:1], append(slices.Clone(good), good[3]), slices.Concat(good[1:], good[:1])}
	bad = append(bad,
		row(slices.Repeat([]api.Machine{plainMachine(1)}, 5)...), row(api.Machine{}), row(plainMachine(0)), row(plainMachine(1201)), row(plainMachine(1), api.Machine{}), row(api.Machine{}, plainMachine(1)),
		row(always("", 4, "")), row(always("", -1, "")), row(always(strings.Repeat("x", 4097), 1, "")),
		withMerges(good, pairs('a', 256)), withMerges(good, pairs('a', 'b', 'a', 'b')), withMerges(good, twoByTwo(1025)),
		withMerges(good, pairs('a', 'b'), 1), withMerges(good, pairs('a', 'b'), -1), withMerges(good, twoByTwo(3), 1, 0), withMerges(good, twoByTwo(3), 1, 1), withMerges(good, nil, 0))
	for i := range good {
		for _, kind := range []int{0, -1, 5, 1<<32 + good[i].Kind, good[(i+1)%4].Kind} {
			bad = append(bad, of(good, 3-i, func(s *api.Stage) { s.Kind = kind }))
		}
	}
	for _, d := range []api.Dfa{{}, plainDfa(0, 1), plainDfa(401, 1), plainDfa(1, 0), plainDfa(1, 257), {Next: [][]int{{1}}, Accept: []bool{true}}, {Next: [][]int{{-2}}, Accept: []bool{true}}, {Next: [][]int{{0}}, Accept: nil}, {Class: [256]uint8{9: 1}, Next: [][]int{{0}}, Accept: []bool{true}}} {
		bad = append(bad, of(good, theSplit, func(s *api.Stage) { s.Dfa = d }))
	}
	for _, l := range [][]int{{-1}, {65536}, make([]int, 33)} {
		bad = append(bad, of(good, theFrame, func(s *api.Stage) { s.Before = l }), of(good, theFrame, func(s *api.Stage) { s.After = l }))
	}
	return bad
}

// P20.2: passes that may not be come first, then stages that do not fit.
func TestRunFaults(t *testing.T) {
	good := row(plainMachine(1), instead('a', 'b'))
	wrong := []int{-1, 32, -2, -31, -32, 33, 63, 64, 255, 256, 1 << 31, 1 << 32, 1<<32 + 1, math.MinInt, math.MinInt + 1, math.MaxInt}
	for _, passes := range wrong {
		checkRunFails(t, good, passes, api.ErrArg)
	}
	for _, g := range unfit() {
		for _, passes := range wrong {
			checkRunFails(t, g, passes, api.ErrArg)
		}
		for passes := range 32 {
			checkRunFails(t, g, passes, api.ErrGraph)
		}
		if l, e := opt.Live(g); e != api.ErrGraph || len(l) > 0 {
			t.Errorf("Live(%s) = %v, %d", showStages(g), l, e)
		}
	}
	for passes := range 32 {
		checkRun(t, good, passes)
	}
}

// P20.2: no pass at all: the stages that were given, each with what its kind needs.
func TestRunNone(t *testing.T) {
	for i := range uint64(300) {
		g := drawnStages(dice(i))
		if got := checkRun(t, g, 0); !slices.EqualFunc(got, g, sameStage) {
			t.Errorf("Run(%s, 0) = %s", showStages(g), showStages(got))
		}
	}
}

// P20.2: no machine, and up to as many as there may be, become one.
func TestFuse(t *testing.T) {
	all := []api.Machine{ruled("a", "bb"), ruled("bb", "c", "x", ""), instead('c', 'x'), ruled("xx", "y", "ab", "cab")}
	checkMachines(t, row(), 1)
	checkMachines(t, row(all[0]), 1, all[0])
	two := behind(all[0], all[1])
	checkMachines(t, row(all[:2]...), 1, two)
	three := behind(two, all[2])
	checkMachines(t, row(all[:3]...), 1, three)
	checkMachines(t, row(all...), 1, behind(three, all[3]))
	checkMachines(t, row(all...), 0, all...)
	checkMachines(t, row(all...), 16, all...)

	g := row(plainMachine(1), plainMachine(3)) // a machine that changes nothing is one, too
	checkMachines(t, g, 1, plainMachine(1))
	for n := range 5 {
		g := row(slices.Repeat([]api.Machine{instead('a', 'b', 'b', 'c', 'c', 'd', 'd', 'e')}, n)...)
		got := checkRun(t, g, 1)
		if len(got) != 3+min(n, 1) {
			t.Errorf("%d machines become %s", n, showStages(got))
		}
		for _, s := range []string{"", "abcde", "eeaa"} {
			checkTold(t, g, got, s)
		}
	}
	unmet := plainMachine(900) // states that are not reached take no room
	checkMachines(t, row(unmet, unmet), 1, plainMachine(1))
	checkMachines(t, row(unmet), 1, unmet)
}

// P20.2: two of which none is made stay two, and those around them become one where they can.
func TestFuseTooMuch(t *testing.T) {
	x, y, z := round(40), round(41), instead('a', 'b')
	if _, e := trans.Then(x, y); e != api.ErrStates {
		t.Fatal("there is room for both", e)
	}
	checkMachines(t, row(x, y), 1, x, y)
	checkMachines(t, row(x, y, x), 1, x, y, x)
	checkMachines(t, row(x, y, x, y), 1, x, y, x, y)
	checkMachines(t, row(x, y, z), 1, x, behind(y, z))
	checkMachines(t, row(z, x, y), 1, behind(z, x), y)
	checkMachines(t, row(x, y, z, z), 1, x, behind(behind(y, z), z))
	checkMachines(t, row(z, x, y, z), 1, behind(z, x), behind(y, z))
	checkMachines(t, row(z, z, x, y), 1, behind(behind(z, z), x), y)
	checkMachines(t, row(x, y, x, z), 1, x, y, behind(x, z))
	checkMachines(t, row(x, y, z, x), 1, x, behind(y, z), x)

	checkMachines(t, row(x, z, y), 1, behind(x, z), y) // both are possible: the first two count
	checkMachines(t, row(x, z, y, z), 1, behind(x, z), behind(y, z))
	checkMachines(t, row(x, z, z, y), 1, behind(behind(x, z), z), y)
	checkMachines(t, row(y, z, x, z), 1, behind(y, z), behind(x, z))
}

// P20.2: two of which none is made, till one of them is made shorter by what stands behind it: so those ahead are tried again.
func TestFuseAgain(t *testing.T) {
	long, twice, gone := always(strings.Repeat("x", 4000), 0, ""), always("yy", 0, "z"), always("", 0, "e")
	other := spelt(plainMap(), 5)
	for _, two := range [][2]api.Machine{{long, twice}, {other, long}} {
		_, e := trans.Then(two[0], two[1])
		if want := two[1].Texts[0] == "yy"; (e != api.OK) != want {
			t.Fatal("they are not as they are meant to be", e)
		}
	}
	checkMachines(t, row(long, twice), 1, long, twice)
	checkMachines(t, row(long, twice, gone), 1, behind(long, behind(twice, gone)))
	checkMachines(t, row(other, long, twice, gone), 1, behind(behind(other, long), behind(twice, gone)))
	checkMachines(t, row(long, twice, gone, other), 1, behind(behind(long, behind(twice, gone)), other))
	checkMachines(t, row(long, twice, twice, gone), 1, behind(long, behind(behind(twice, twice), gone)))
	for _, g := range [][]api.Stage{row(long, twice, gone), row(other, long, twice, gone), row(long, twice, gone, other), row(long, twice, twice, gone)} {
		for _, s := range []string{"", "a", "ab c", strings.Repeat("abc ", 5)} {
			checkTold(t, g, checkRun(t, g, 1), s)
		}
	}
}

// P20.2: machines are left out, each of which has each byte itself, however it puts it.
func TestEmpty(t *testing.T) {
	x, y := instead('a', 'b'), ruled("ab", "c")
	for _, same := range []api.Machine{ruled(), ruled("a", "a"), plainMachine(1), plainMachine(1200), spelt(plainMap(), 1), spelt(plainMap(), 2), spelt(plainMap(), 7), behind(instead('a', 'a'), ruled()), spelt(plainMap(), 1200)} {
		checkMachines(t, row(same), 2)
		checkMachines(t, row(same, same), 2)
		checkMachines(t, row(same, same, same, same), 2)
		checkMachines(t, row(x, same), 2, x)
		checkMachines(t, row(same, y), 2, y)
		checkMachines(t, row(same, x, same, y), 2, x, y)
		checkMachines(t, row(y, same, same, x), 2, y, x)
		checkMachines(t, row(same), 0, same)
	}
	checkMachines(t, row(), 2)
	checkMachines(t, row(x, y, y, x), 2, x, y, y, x)
}

// P20.2: machines that change anything stay.
func TestEmptyStays(t *testing.T) {
	for b := range 256 { // one byte alone
		x := instead(byte(b), byte(b+1))
		checkMachines(t, row(x), 2, x)
		if b%16 == 0 {
			y := spelt(mapOf(byte(b), byte(255-b)), 3)
			checkMachines(t, row(y, plainMachine(1)), 2, y)
		}
	}
	for _, end := range []string{"a", "\x00", "ab", strings.Repeat("x", 4096)} { // something at the end
		x := always("", 1, end)
		checkMachines(t, row(x), 2, x)
		later := spelt(plainMap(), 4)
		later.Texts = append(later.Texts, end)
		later.End[3] = len(later.Texts) - 1
		checkMachines(t, row(later, later), 2, later, later)
		unmet := plainMachine(2) // which counts only if it is reached
		unmet.Texts = append(unmet.Texts, end)
		unmet.End[1], unmet.Put[1][7] = 1, 2
		checkMachines(t, row(unmet), 2)
	}
	back := mapOf('a', 'b', 'b', 'a') // each byte itself behind both, but not behind one
	checkMachines(t, row(spelt(back, 1), spelt(back, 2)), 2, spelt(back, 1), spelt(back, 2))
	if g := checkRun(t, row(spelt(back, 1), spelt(back, 2)), 3); len(g) != 3 {
		t.Error("one machine of both stays:", showStages(g))
	}
	twice, late := always("", 1, ""), plainMachine(2)
	twice.Texts[0] = "a"
	late.Texts = append(late.Texts, "a")
	late.Next[0]['a'], late.Put[0]['a'], late.End[1] = 1, 0, 1 // an a that stands at the end comes there
	for _, x := range []api.Machine{twice, late, ruled("a", ""), ruled("a", "aa"), ruled("aa", "a"), ruled("aa", "aa"), always("", 0, ""), always("a", 0, "")} {
		checkMachines(t, row(x), 2, x)
	}
}

// P20.2: the last machines, of single bytes, become the splitter's Map.
func TestBytes(t *testing.T) {
	ab, bc, none := instead('a', 'b'), instead('b', 'c'), ruled("ab", "c")
	plain := plainMap()
	checkMapped(t, row(), plain)
	checkMapped(t, row(ab), mapOf('a', 'b'))
	checkMapped(t, row(plainMachine(1)), plain)
	checkMapped(t, row(ab, bc), mapOf('a', 'c', 'b', 'c'))
	checkMapped(t, row(bc, ab), mapOf('a', 'b', 'b', 'c'))
	checkMapped(t, row(ab, bc, instead('c', 'd')), mapOf('a', 'd', 'b', 'd', 'c', 'd'))
	checkMapped(t, row(instead('c', 'd'), bc, ab), mapOf('a', 'b', 'b', 'c', 'c', 'd'))
	checkMapped(t, row(instead('a', 'b', 'b', 'a'), instead('a', 'b', 'b', 'a'), ab, plainMachine(3)), mapOf('a', 'b'))
	checkMapped(t, row(slices.Repeat([]api.Machine{instead('a', 'b', 'b', 'c', 'c', 'd', 'd', 'e')}, 4)...), mapOf('a', 'e', 'b', 'e', 'c', 'e', 'd', 'e'))

	checkMapped(t, row(none), plain, none)
	checkMapped(t, row(none, ab), mapOf('a', 'b'), none)
	checkMapped(t, row(none, ab, bc), mapOf('a', 'c', 'b', 'c'), none)
	checkMapped(t, row(ab, none), plain, ab, none)
	checkMapped(t, row(ab, bc, none), plain, ab, bc, none)
	checkMapped(t, row(ab, none, bc), mapOf('b', 'c'), ab, none)
	checkMapped(t, row(none, ab, none, bc), mapOf('b', 'c'), none, ab, none)
	checkMapped(t, row(none, none), plain, none, none)

	for _, x := range []api.Machine{always("", 1, "a"), always("a", 1, ""), always("", 0, ""), always("ab", 0, ""), ruled("a", ""), ruled("a", "bb"), ruled("aa", "b"), always("a", 0, "a")} {
		checkMapped(t, row(x), plain, x)
		checkMapped(t, row(x, ab), mapOf('a', 'b'), x)
	}
	checkMapped(t, row(always("z", 0, "")), [256]uint8(slices.Repeat([]uint8{'z'}, 256)))
	unmet := spelt(mapOf('a', 'b'), 2) // a state that is not reached does not count
	for b := range 256 {
		unmet.Next[0][b] = 0
	}
	unmet.Put[1]['a'] = 1
	checkMapped(t, row(unmet), mapOf('a', 'b'))
	unmet.Next[0]['c'] = 1
	checkMapped(t, row(unmet), plain, unmet)
}

// P20.2: each byte is put, and then taken as Map has it.
func TestBytesOfMap(t *testing.T) {
	ab := instead('a', 'b')
	checkMapped(t, withMap(row(), 'b', 'c'), mapOf('b', 'c'))
	checkMapped(t, withMap(row(ab), 'b', 'c'), mapOf('a', 'c', 'b', 'c'))
	checkMapped(t, withMap(row(ab), 'a', 'c'), mapOf('a', 'b'))
	checkMapped(t, withMap(row(ab), 'c', 'a'), mapOf('a', 'b', 'c', 'a'))
	checkMapped(t, withMap(row(ab), 'b', 'a'), mapOf('b', 'a'))
	checkMapped(t, withMap(row(ab, instead('b', 'c')), 'c', 'd', 'b', 'x'), mapOf('a', 'd', 'b', 'd', 'c', 'd'))
	var turned, halves, both [256]uint8
	for b := range 256 {
		turned[b], halves[b], both[b] = uint8(255-b), uint8(b/2), uint8(255-b/2)
	}
	for _, states := range []int{1, 5} {
		g := of(row(spelt(halves, states)), theSplit, func(s *api.Stage) { s.Map = turned })
		checkMapped(t, g, both)
		checkTold(t, g, checkRun(t, g, 4), everything())
	}
}

// leastOf is stages of which the splitter has the least of its dfa.
func leastOf(g []api.Stage) []api.Stage {
	return of(g, theSplit, func(s *api.Stage) { s.Dfa, _ = mini.Least(s.Dfa) })
}

// P20.2: the dfa becomes the least one, and nothing else becomes anything.
func TestLeast(t *testing.T) {
	unmet := automaton("[a-z]+")
	unmet.Next = append(unmet.Next, slices.Clone(unmet.Next[0]))
	unmet.Accept = append(unmet.Accept, true)
	dead := plainDfa(400, 256)
	for i := range dead.Next {
		dead.Next[i] = slices.Repeat([]int{(i + 1) % 400}, 256)
	}
	for _, x := range []struct {
		d      api.Dfa
		states int
	}{
		{automaton("a|b"), 2}, {automaton("[ab]"), 2}, {automaton("(a|b)*"), 1}, {automaton("(a*b*)*"), 1}, {automaton("[^\\x00-\\xff]"), 1},
		{automaton("abc|abd|[x-z]bd"), 6}, {unmet, 2}, {dead, 1}, {plainDfa(1, 1), 1}, {plainDfa(7, 3), 1},
	} {
		for _, g := range [][]api.Stage{row(), row(instead('a', 'b')), withMap(row(ruled(), ruled("a", "bb")), 'x', 'y', 'a', 'b'), withMerges(row(), pairs('a', 'b', 256, 256), 1)} {
			g = of(g, theSplit, func(s *api.Stage) { s.Dfa = x.d })
			got := checkRun(t, g, 8)
			if !slices.EqualFunc(got, leastOf(g), sameStage) {
				t.Errorf("Run(%s, 8) = %s", showStages(g), showStages(got))
			}
			if d := got[len(got)-3].Dfa; len(d.Next) != x.states {
				t.Errorf("%d states become %d; want %d", len(x.d.Next), len(d.Next), x.states)
			}
			if again := checkRun(t, got, 8); !slices.EqualFunc(again, got, sameStage) {
				t.Errorf("the least one becomes another one: %s", showStages(again))
			}
			for _, s := range []string{"", "abab abc", "xbd", everything()} {
				checkTold(t, g, got, s)
			}
			checkRun(t, g, 23)
		}
	}
}

// P20.2: merges of what is not live are left out, and those that hang on them.
func TestDead(t *testing.T) {
	abc := pairs('a', 'b', 256, 'c', 'b', 'c', 256, 258)
	plain := row()
	checkDrop(t, withMerges(plain, nil))
	checkDrop(t, withMerges(row(always("", 0, "")), nil))
	checkDrop(t, withMerges(plain, abc))
	checkDrop(t, withMerges(plain, abc, 1), 1)
	checkDrop(t, withMerges(plain, abc, 0), 0, 1, 3) // Drop stays, and what hangs on it goes
	checkDrop(t, withMerges(plain, abc, 2), 2, 3)
	checkDrop(t, withMerges(plain, abc, 3), 3)
	checkDrop(t, withMerges(plain, abc, 0, 2), 0, 1, 2, 3)
	checkDrop(t, withMerges(plain, abc, 0, 1, 2, 3), 0, 1, 2, 3)
	checkDrop(t, withMerges(plain, pairs('a', 'b', 256, 256, 257, 257, 'x', 'y'), 1), 1, 2)

	no := func(c byte) []api.Stage { return row(instead(c, 'x')) } // no text of the machine has c
	checkDrop(t, withMerges(no('a'), abc), 0, 1, 3)
	checkDrop(t, withMerges(no('b'), abc), 0, 1, 2, 3)
	checkDrop(t, withMerges(no('c'), abc), 1, 2, 3)
	checkDrop(t, withMerges(no('d'), abc))
	checkDrop(t, withMerges(no('c'), abc, 0), 0, 1, 2, 3)
	checkDrop(t, withMerges(no('c'), abc, 3), 1, 2, 3)
	checkDrop(t, withMerges(no('a'), pairs('b', 'a', 'a', 'b', 'b', 'b', 258, 257, 256, 258)), 0, 1, 3, 4)
	checkDrop(t, withMerges(no('a'), pairs('b', 'a', 'b', 'b', 257, 256)), 0, 2)
	checkDrop(t, withMerges(no('a'), pairs('a', 'b', 'b', 'b', 256, 257)), 0, 2)

	self := instead('a', 'x') // a comes only from where the byte itself is put
	self.Put[0]['b'] = 2
	checkDrop(t, withMerges(row(self), abc), 0, 1, 2, 3)
	checkDrop(t, withMerges(row(self), pairs('x', 'c', 'c', 'x', 'x', 'b')), 2)
	self.Texts = append(self.Texts, "yb")
	self.Put[0]['a'] = 5 // yba
	checkDrop(t, withMerges(row(self), abc))
	self.Put[0]['a'] = 4 // yb
	checkDrop(t, withMerges(row(self), abc), 0, 1, 3)
}

// P20.2: what is put at the end, what Map has, and all bytes alone.
func TestDeadBytes(t *testing.T) {
	abc := pairs('a', 'b', 256, 'c', 'b', 'c', 256, 258)
	checkDrop(t, withMerges(row(always("a", 0, "")), abc), 0, 1, 2, 3)
	checkDrop(t, withMerges(row(always("a", 0, "b")), abc), 1, 2, 3)
	checkDrop(t, withMerges(row(always("ca", 0, "b")), abc))
	checkDrop(t, withMerges(row(always("", 0, "abc")), abc))
	checkDrop(t, withMerges(row(always("", 0, "")), abc), 0, 1, 2, 3)
	checkDrop(t, withMerges(row(always("", 0, "abc"), always("a", 0, "c")), abc), 0, 1, 2, 3) // the last one counts alone
	checkDrop(t, withMerges(row(always("a", 0, "c"), always("", 1, "")), abc))

	checkDrop(t, withMap(withMerges(row(), abc), 'a', 'x'), 0, 1, 3)
	checkDrop(t, withMap(withMerges(row(), abc), 'x', 'a'))
	checkDrop(t, withMap(withMerges(row(), abc), 'c', 'a', 'd', 'c'))
	checkDrop(t, withMap(withMerges(row(instead('d', 'e')), abc), 'c', 'a', 'd', 'c'), 1, 2, 3)
	checkDrop(t, withMap(withMerges(row(always("x", 0, "y")), abc), 'x', 'a', 'y', 'b'), 1, 2, 3)
	checkDrop(t, withMap(withMerges(row(always("ab", 0, "")), abc), 'a', 'x', 'b', 'c', 'c', 'b'), 0, 1, 2, 3)

	most := twoByTwo(1024) // of rows 0 to 3, each with all bytes
	checkDrop(t, withMerges(row(), most))
	checkDrop(t, withMerges(row(always("", 0, "")), most), upTo(1024)...)
	checkDrop(t, withMerges(row(), most, upTo(1024)...), upTo(1024)...)
	checkDrop(t, withMerges(row(instead(2, 3)), most), slices.Concat([]int{2, 258}, upTo(768)[512:], []int{770})...)
	for b := range 256 {
		l := pairs(b, b, 256, b, b, (b+1)%256, (b+1)%256, b)
		if b%51 == 0 {
			l = append(l, api.Merge{Left: (b + 3) % 256, Right: (b + 2) % 256})
		}
		checkDrop(t, withMerges(row(instead(byte(b), byte(b+1))), l), 0, 1, 2, 3)
		checkDrop(t, withMerges(row(instead(byte(b+2), byte(b))), l[:4]))
	}
}

// P20.2: passes are done in their order, each on what those ahead left.
func TestOrder(t *testing.T) {
	x, y, back := instead('a', 'b'), plainMachine(2), mapOf('a', 'b', 'b', 'a')
	ab := withMerges(row(x, y), pairs('a', 'b', 'b', 'b'))
	for passes, want := range map[int][]int{16: nil, 17: {0}, 18: {0}, 20: {0}, 31: {0}, 0: nil, 15: nil} {
		if got := checkRun(t, ab, passes); !slices.Equal(got[len(got)-2].Drop, want) {
			t.Errorf("behind %d, Drop is %v; want %v", passes, got[len(got)-2].Drop, want)
		}
	}
	two := row(spelt(back, 1), spelt(back, 1))
	for passes, want := range map[int]int{0: 2, 1: 1, 2: 2, 3: 0, 4: 0, 8: 2, 16: 2, 31: 0, 27: 0, 25: 1} {
		if got := machinesOf(checkRun(t, two, passes)); len(got) != want {
			t.Errorf("behind %d, there are %d machines; want %d", passes, len(got), want)
		}
	}
	last := row(x, ruled("bb", "c"), y) // what changes nothing is left out, or becomes a Map, behind Fuse alone
	for passes, want := range map[int]int{0: 3, 1: 1, 2: 2, 4: 2, 5: 1, 6: 2, 7: 1, 31: 1, 30: 2} {
		if got := machinesOf(checkRun(t, last, passes)); len(got) != want {
			t.Errorf("behind %d, there are %d machines; want %d", passes, len(got), want)
		}
	}
	comes := withMerges(row(always("q", 0, "b"), x), pairs('q', 'b', 'c', 'b')) // behind Bytes another machine is the last one
	for passes, want := range map[int][]int{16: nil, 20: {1}, 17: {1}, 31: {1}} {
		if got := checkRun(t, comes, passes); !slices.Equal(got[len(got)-2].Drop, want) {
			t.Errorf("behind %d, Drop is %v; want %v", passes, got[len(got)-2].Drop, want)
		}
	}
}

// P20.2, R2, R3: fields that a kind does not need are neither looked at nor told.
func TestUnneeded(t *testing.T) {
	tidy := withMap(withMerges(row(instead('a', 'b'), ruled("bb", "c"), plainMachine(2), instead('x', 'a')), pairs('a', 'b', 'b', 'c', 256, 'c')), 'c', 'd')
	messy := slices.Clone(tidy)
	for i := range messy {
		s := &messy[i]
		if s.Kind != api.SMap {
			s.Machine = always("a", 4, "b")
		}
		if s.Kind != api.SSplit {
			s.Dfa, s.Map = plainDfa(401, 2), mapOf('a', 'q', 'b', 'q')
		}
		if s.Kind != api.SMerge {
			s.Merges, s.Drop = pairs(-1, 'a', 'a', 999), []int{-5, 9, 3, 3}
		}
		if s.Kind != api.SFrame {
			s.Before, s.After = []int{-7, 1 << 40}, make([]int, 99)
		}
	}
	for passes := range 32 {
		if got, e := opt.Run(messy, passes); e != api.OK || !slices.EqualFunc(got, meantRun(tidy, passes), sameStage) {
			t.Errorf("Run(%s, %d) = %s, %d", showStages(messy), passes, showStages(got), e)
		}
	}
	want := checkLive(t, tidy)
	if got, e := opt.Live(messy); e != api.OK || !slices.Equal(got, want) {
		t.Error("Live tells", lives(got), e, "and not", lives(want))
	}
}

// P20.2: each bit alone, and all sets of bits, on stages that are drawn.
func TestRunDrawn(t *testing.T) {
	var changed [5]int
	for i := range uint64(700) {
		d := dice(1000 + i)
		g := drawnStages(d)
		for bit := range changed {
			if !slices.EqualFunc(checkRun(t, g, 1<<bit), g, sameStage) {
				changed[bit]++
			}
		}
		checkRun(t, g, d.IntN(32))
		checkRun(t, g, 31)
		if t.Failed() {
			t.Fatal("at", i)
		}
	}
	if slices.Min(changed[:]) < 120 {
		t.Error("these show too little:", changed)
	}
}

// P20.2: passes that are done one call behind the other, in their order, do what they do in one.
func TestOneByOne(t *testing.T) {
	for i := range uint64(150) {
		d := dice(3000 + i)
		ahead := drawnStages(d)
		for _, passes := range []int{31, d.IntN(32), d.IntN(32)} {
			g := ahead
			for bit := 1; bit < 32; bit *= 2 {
				g = checkRun(t, g, passes&bit)
			}
			if whole := checkRun(t, ahead, passes); !slices.EqualFunc(g, whole, sameStage) {
				t.Fatalf("at %d: %s, by %d, is %s, and bit by bit %s", i, showStages(ahead), passes, showStages(whole), showStages(g))
			}
			for bit := 1; bit < 32; bit *= 2 { // each pass goes on till there is nothing left for it
				if passes == bit && !slices.EqualFunc(checkRun(t, g, bit), g, sameStage) {
					t.Errorf("at %d: %s changes again by %d", i, showStages(g), bit)
				}
			}
		}
	}
}

// P20.2: stages at their limits.
func TestRunLimits(t *testing.T) {
	m := plainMachine(1200)
	for range 4095 {
		m.Texts = append(m.Texts, strings.Repeat("z", 4096))
	}
	for i := range m.Next {
		for b := range 256 {
			m.Next[i][b] = (i + b) % 1200
			m.Put[i][b] = 2 * ((256*i + b) % 4096)
		}
	}
	d := plainDfa(400, 256)
	for i := range d.Next {
		d.Accept[i] = i%7 == 0
		for b := range 256 {
			d.Class[b] = uint8(b)
			d.Next[i][b] = (3*i + b) % 400
		}
	}
	g := withMerges(of(row(m, plainMachine(1), instead('a', 'b'), m), theSplit, func(s *api.Stage) { s.Dfa = d }), twoByTwo(1024))
	for _, passes := range []int{2, 4, 8, 16, 30} {
		got, e := opt.Run(g, passes)
		if e != api.OK || !ir.Right(got) || len(got) != len(g)-passes/2%2 {
			t.Errorf("Run(%s, %d) = %s, %d", showStages(g), passes, showStages(got), e)
		}
	}
	if l, e := opt.Live(g); e != api.OK || len(l) != 1280 || !slices.Equal(lives(l), []int{'z'}) {
		t.Error("the last machine puts z alone, but live are", lives(l), e)
	}
}
