package ir_test

import (
	"runtime"
	"slices"
	"strings"
	"sync"
	"testing"

	"fretsaw/api"
	"fretsaw/ir"
)

// checkEval asks for what stages tell of a text.
func checkEval(t *testing.T, g []api.Stage, s string, want ...int) {
	t.Helper()
	if got, e := ir.Eval(g, s); e != api.OK || !slices.Equal(got, want) {
		t.Errorf("Eval(%s, %s) = %s of %d, %d; want %s of %d", showStages(g), show(s), show(got), len(got), e, show(want), len(want))
	}
}

// checkEvalFails asks for an error, and that nothing stands beside it.
func checkEvalFails(t *testing.T, g []api.Stage, s string, want api.Errno) {
	t.Helper()
	if got, e := ir.Eval(g, s); e != want || len(got) > 0 {
		t.Errorf("Eval(%s, %s of %d) = %s, %d; want %d alone", showStages(g), show(s), len(s), show(got), e, want)
	}
}

// checkMeant holds the answer for a text against the chapter's words.
func checkMeant(t *testing.T, g []api.Stage, s string) {
	t.Helper()
	want, e := meantTold(g, s)
	if e != api.OK {
		checkEvalFails(t, g, s, e)
		return
	}
	checkEval(t, g, s, want...)
}

// The chapter's examples.
func TestExamples(t *testing.T) {
	g := lowered(t, parsed(`split [a-z]+/merge "a" "b"`))
	checkEval(t, g, "ab ab", 256, 32, 256)
	checkEval(t, g, "")
	for _, s := range []string{"", "ab ab", strings.Repeat("a", mostInput+1)} {
		checkEvalFails(t, nil, s, api.ErrGraph)
	}
}

// P19.1: how long a text may be, whatever becomes of it.
func TestEvalLongTexts(t *testing.T) {
	s := strings.Repeat("a", mostInput)
	for _, g := range [][]api.Stage{row(), row(times(0, 0)), row(count(7)), row(plainMachine(1), times(3, 1)), bare()} {
		checkEvalFails(t, g, s+"a", api.ErrLong)
		checkEvalFails(t, g, s+"\xff", api.ErrLong)
		checkEvalFails(t, g, s+s, api.ErrLong)
		checkEvalFails(t, g, strings.Repeat(s, 64), api.ErrLong)
		checkEvalFails(t, g, strings.Repeat(s, 300), api.ErrLong)
	}
	checkEval(t, bare(), s, idsOf(s)...)
	checkEval(t, bare(), s[1:], idsOf(s[1:])...)
	checkEval(t, row(), s, slices.Concat([]int{1000}, idsOf(s), []int{2000, 2001})...)
	checkEval(t, row(times(0, 0)), s, 1000, 2000, 2001)
	words := strings.Repeat("abc ", mostInput/4)
	checkEval(t, row(), words, slices.Concat([]int{1000}, slices.Repeat([]int{257, ' '}, mostInput/4), []int{2000, 2001})...)
}

// P19.1: the empty text: machines put something at the end alone, and no piece is empty.
func TestEvalEmptyText(t *testing.T) {
	for maps := range 5 {
		g := row(slices.Repeat([]api.Machine{plainMachine(2)}, maps)...)
		checkEval(t, g, "", 1000, 2000, 2001)
		checkEval(t, of(g, theFrame, func(s *api.Stage) { s.Before, s.After = nil, nil }), "")
		for _, x := range []string{"", "a*", "[^\\x00-\\xff]", "."} {
			checkEval(t, of(g, theSplit, func(s *api.Stage) { s.Dfa = automaton(x) }), "", 1000, 2000, 2001)
		}
	}
	checkEval(t, row(always("x", 1, "ab")), "", 1000, 256, 2000, 2001)
	checkEval(t, row(always("x", 1, "ab"), always("", 1, "c")), "", 1000, 257, 2000, 2001)
	checkEval(t, row(always("x", 1, "ab"), times(0, 0)), "", 1000, 2000, 2001)
}

// P19.1: how much a machine may put: 64 times MaxInput bytes, what is put at the end being among them.
func TestEvalMostPut(t *testing.T) {
	s := strings.Repeat("a", mostInput)
	most := idsOf(strings.Repeat("a", mostText))
	checkEval(t, bare(times(64, 0)), s, most...)
	checkEval(t, bare(times(63, 0)), s, most[mostInput:]...)
	checkEvalFails(t, bare(times(64, 1)), s, api.ErrLong)
	checkEvalFails(t, bare(times(65, 0)), s, api.ErrLong)
	checkEval(t, bare(times(64, 63)), s[1:], append(slices.Clone(most[64:]), slices.Repeat([]int{'e'}, 63)...)...)
	checkEval(t, bare(times(64, 64)), s[1:], append(slices.Clone(most[64:]), slices.Repeat([]int{'e'}, 64)...)...)
	checkEvalFails(t, bare(times(64, 65)), s[1:], api.ErrLong)

	text := strings.Repeat("t", 4096)
	checkEval(t, bare(always(text, 0, "")), s[:64], idsOf(strings.Repeat(text, 64))...)
	checkEvalFails(t, bare(always(text, 0, "")), s[:65], api.ErrLong)
	checkEvalFails(t, bare(always(text, 0, "x")), s[:64], api.ErrLong)
	checkEvalFails(t, bare(always(text, 1, "")), s[:64], api.ErrLong)
	checkEval(t, bare(always(text, 1, "")), s[:63], idsOf(strings.Repeat(text+"a", 63))...)
	checkEval(t, bare(always(text, 0, text)), s[:63], idsOf(strings.Repeat(text, 64))...)
	checkEvalFails(t, bare(always(text, 0, text)), s[:64], api.ErrLong)
	checkEvalFails(t, bare(always(text, 1, text)), s, api.ErrLong)

	late := plainMachine(2) // too much at the last byte alone
	late.Texts = append(late.Texts, strings.Repeat("a", 64), strings.Repeat("a", 65))
	for b := range 256 {
		late.Put[0][b] = 2
	}
	late.Put[0]['z'] = 4
	checkEval(t, bare(late), s, most...)
	checkEvalFails(t, bare(late), s[1:]+"z", api.ErrLong)
	checkEvalFails(t, bare(late), "z"+s[1:], api.ErrLong)
	checkEval(t, bare(late), "z"+s[2:], most[63:]...)
}

// P19.1: a machine is given no more than 64 times MaxInput bytes, but as many; what is too much is told, even if a later one would leave nothing of it.
func TestEvalMachinesBehind(t *testing.T) {
	s := strings.Repeat("a", mostInput)
	most := idsOf(strings.Repeat("a", mostText))
	gone, same := times(0, 0), plainMachine(1)
	checkEval(t, bare(times(64, 0), same), s, most...)
	checkEval(t, bare(same, times(64, 0), same, same), s, most...)
	checkEval(t, bare(times(8, 0), times(8, 0)), s, most...)
	checkEval(t, bare(times(2, 0), times(4, 0), times(4, 0), times(2, 0)), s, most...)
	checkEval(t, bare(times(64, 0), gone), s)
	checkEval(t, bare(times(64, 0), gone, times(64, 64), times(2, 5)), s, idsOf(strings.Repeat("e", 133))...)
	checkEval(t, bare(times(64, 0), always("", 0, "end")), s, 'e', 'n', 'd')
	checkEval(t, bare(times(0, 1), times(64, 0), times(64, 0), times(64, 0)), s, idsOf(strings.Repeat("e", mostText))...)

	checkEvalFails(t, bare(times(64, 0), times(1, 1)), s, api.ErrLong)
	checkEvalFails(t, bare(times(64, 0), times(2, 0)), s, api.ErrLong)
	checkEvalFails(t, bare(times(64, 1), gone), s, api.ErrLong)
	checkEvalFails(t, bare(times(65, 0), gone), s, api.ErrLong)
	checkEvalFails(t, bare(same, same, times(65, 0), gone), s, api.ErrLong)
	checkEvalFails(t, bare(times(8, 0), times(8, 1), gone), s, api.ErrLong)
	checkEvalFails(t, bare(times(8, 1), times(8, 0), gone), s, api.ErrLong)
	checkEvalFails(t, bare(times(2, 0), times(4, 0), times(4, 0), times(2, 1)), s, api.ErrLong)
	checkEvalFails(t, bare(times(4, 0), times(4, 0), times(5, 0), gone), s, api.ErrLong)
	checkEvalFails(t, bare(times(0, 1), times(64, 0), times(64, 1), times(64, 0)), s, api.ErrLong)
	checkEvalFails(t, bare(times(64, 0), always(strings.Repeat("t", 4096), 1, "")), s, api.ErrLong)
	checkEvalFails(t, bare(times(64, 0), always(strings.Repeat("t", 4096), 1, ""), gone, gone), s, api.ErrLong)

	for _, states := range []int{1, 2, 3, 7, 100, 1199, 1200} { // how a machine is, behind so much
		for _, n := range []int{0, 1, 64, 65, 4095, 4096} {
			checkEval(t, bare(times(64, 0), count(states)), s[:n], idsOf(strings.Repeat("n", 64*n%states))...)
			checkEval(t, bare(times(63, 0), same, count(states)), s[:n], idsOf(strings.Repeat("n", 63*n%states))...)
		}
	}
}

// P1: a machine that would put far too much is not waited for, and has no room made for it.
func TestEvalStopsSoon(t *testing.T) {
	s := strings.Repeat("a", mostInput)
	g := bare(times(64, 0), always(strings.Repeat("t", 4096), 1, ""))
	var ahead, behind runtime.MemStats
	runtime.ReadMemStats(&ahead)
	checkEvalFails(t, g, s, api.ErrLong)
	runtime.ReadMemStats(&behind)
	if n := behind.TotalAlloc - ahead.TotalAlloc; n > 100*mostText {
		t.Errorf("%d bytes of memory are asked for", n)
	}
}

// P19.1: stages that do not fit are told ahead of a text that is too long.
func TestEvalBothFaults(t *testing.T) {
	s := strings.Repeat("a", mostInput+1)
	for _, g := range [][]api.Stage{
		nil, row()[1:], row()[:2], row(api.Machine{}), row(times(65, 0), api.Machine{}), row(slices.Repeat([]api.Machine{times(65, 0)}, 5)...),
		of(row(), theSplit, func(s *api.Stage) { s.Dfa = api.Dfa{} }),
		of(row(times(65, 0)), theMerge, func(s *api.Stage) { s.Drop = []int{2} }),
		of(row(times(65, 0)), theFrame, func(s *api.Stage) { s.After = []int{65536} }),
	} {
		checkEvalFails(t, g, s, api.ErrGraph)
		checkEvalFails(t, g, s[1:], api.ErrGraph)
		checkEvalFails(t, g, "", api.ErrGraph)
		checkEvalFails(t, g, strings.Repeat(s, 100), api.ErrGraph)
	}
}

// P19.1: machines go one behind the other, each over all that the one ahead puts.
func TestEvalMachines(t *testing.T) {
	ab, bc, ca := instead('a', 'b'), instead('b', 'c'), instead('c', 'a')
	for _, x := range []struct {
		machines []api.Machine
		want     string
	}{
		{nil, "abca"},
		{[]api.Machine{ab}, "bbcb"},
		{[]api.Machine{ab, bc}, "cccc"},
		{[]api.Machine{bc, ab}, "bccb"},
		{[]api.Machine{ab, bc, ca}, "aaaa"},
		{[]api.Machine{ca, bc, ab}, "bcbb"},
		{[]api.Machine{ca, bc, ab, bc}, "cccc"},
		{[]api.Machine{ab, ab, ab, ca}, "bbab"},
		{[]api.Machine{always("x", 1, "!")}, "xaxbxcxa!"},
		{[]api.Machine{always("x", 0, "!")}, "xxxx!"},
		{[]api.Machine{always("", 1, "a"), ab}, "bbcbb"},
		{[]api.Machine{ab, always("", 1, "a")}, "bbcba"},
		{[]api.Machine{always("", 0, ""), always("a", 1, "b"), always("c", 1, "d")}, "cbd"},
	} {
		checkEval(t, bare(x.machines...), "abca", idsOf(x.want)...)
	}
	turns := plainMachine(3) // the first of each three bytes stays, the second one is left out, the third one is put twice; what the end puts tells how far it came
	turns.Texts = []string{"", "1", "2", "3", "a", "b"}
	for b := range 256 {
		turns.Next[0][b], turns.Next[1][b] = 1, 2
		turns.Put[1][b], turns.Put[2][b] = 0, 1
	}
	turns.Put[2]['a'], turns.Put[2]['b'] = 2*4+1, 2*5+1
	turns.End = []int{1, 2, 3}
	for s, want := range map[string]string{"": "1", "a": "a2", "ab": "a3", "aba": "aaa1", "abab": "aaab2", "aabbab": "abbbbb1", "ccccc": "ccc3"} {
		checkEval(t, bare(turns), s, idsOf(want)...)
		checkMeant(t, bare(turns, turns), s)
		checkMeant(t, bare(turns, ab, turns, bc), s)
	}
}

// P19.1: the text is taken apart, and told, with Map's bytes; each byte is looked up once.
func TestEvalMap(t *testing.T) {
	mapped := func(pairs string) []api.Stage {
		return of(row(), theSplit, func(s *api.Stage) {
			for i := 0; i < len(pairs); i += 2 {
				s.Map[pairs[i]] = pairs[i+1]
			}
		})
	}
	told := func(ids ...int) []int { return slices.Concat([]int{1000}, ids, []int{2000, 2001}) }
	checkEval(t, mapped("AaBb"), "ABab", told(256, 256)...)
	checkEval(t, mapped("AaBb"), "Ab aB C", told(256, ' ', 256, ' ', 'C')...)
	checkEval(t, mapped("abba"), "ba", told(256)...)
	checkEval(t, mapped("abba"), "ab", told('b', 'a')...)
	checkEval(t, mapped("abbcca"), "cab", told(257)...) // looked up twice, it would be bca
	checkEval(t, mapped("a "), "abab", told(' ', 'b', ' ', 'b')...)
	checkEval(t, mapped(" a"), " b b", told(256, 256)...)
	checkEval(t, mapped("a\xffb\x00"), "ab", told(255, 0)...)

	all := everything()
	turned := of(bare(), theSplit, func(s *api.Stage) {
		for b := range 256 {
			s.Map[b] = uint8(255 - b)
		}
	})
	want := upTo(256)
	slices.Reverse(want)
	checkEval(t, turned, all, want...)
	none := of(bare(), theSplit, func(s *api.Stage) { s.Map = [256]uint8{} })
	checkEval(t, none, all, make([]int, 256)...)
	for b := range 256 {
		g := of(bare(), theSplit, func(s *api.Stage) { s.Map[b] = uint8(b + 1) })
		want := upTo(256)
		want[b] = (b + 1) % 256
		checkEval(t, g, all, want...)
	}
	behind := of(bare(instead('a', 'b')), theSplit, func(s *api.Stage) { s.Map['a'], s.Map['b'] = 'x', 'c' })
	checkEval(t, behind, "ab", 'c', 'c') // Map stands behind machines
}

// P19.1: merges that are left out; the others keep their ranks and ids.
func TestEvalDrop(t *testing.T) {
	l := pairs('a', 'b', 256, 'c', 'b', 'c')
	for _, x := range []struct{ drop, want []int }{
		{nil, []int{257, 258}},
		{[]int{}, []int{257, 258}},
		{[]int{0}, []int{'a', 258, 258}},
		{[]int{1}, []int{256, 'c', 258}},
		{[]int{2}, []int{257, 'b', 'c'}},
		{[]int{0, 1}, []int{'a', 258, 258}},
		{[]int{0, 2}, []int{'a', 'b', 'c', 'b', 'c'}},
		{[]int{1, 2}, []int{256, 'c', 'b', 'c'}},
		{[]int{0, 1, 2}, []int{'a', 'b', 'c', 'b', 'c'}},
	} {
		g := of(row(), theMerge, func(s *api.Stage) { s.Merges, s.Drop = l, x.drop })
		checkEval(t, g, "abcbc", slices.Concat([]int{1000}, x.want, []int{2000, 2001})...)
	}
	s := strings.Repeat("a", 64)
	for n := range 7 { // behind the first one that is left out nothing is done any more
		g := of(row(), theMerge, func(s *api.Stage) { s.Merges, s.Drop = doubled('a', 6), upTo(6)[n:min(n+1, 6)] })
		id := int('a')
		if n > 0 {
			id = 255 + n
		}
		checkEval(t, g, s, slices.Concat([]int{1000}, slices.Repeat([]int{id}, 64>>n), []int{2000, 2001})...)
	}
	most := twoByTwo(1024)
	bytes := of(bare(), theMerge, func(s *api.Stage) { s.Merges, s.Drop = most, upTo(1024) })
	checkEval(t, bytes, "\x05\x03\xff\x00\x00\x04", 5, 3, 255, 0, 0, 4)
	last := of(bare(), theMerge, func(s *api.Stage) { s.Merges, s.Drop = most, upTo(1023) })
	checkEval(t, last, "\xff\x03\xfe\x03", 256+1023, 0xFE, 3)
}

// P19.1: pieces: of a dfa that takes nothing, or the empty text alone, bytes; no merge reaches over two of them.
func TestEvalPieces(t *testing.T) {
	for x, want := range map[string][]int{
		"[^\\x00-\\xff]":   {'a', 'b', 'c', ' ', 'a', 'b', 'c'},
		"":                 {'a', 'b', 'c', ' ', 'a', 'b', 'c'},
		"()*":              {'a', 'b', 'c', ' ', 'a', 'b', 'c'},
		".":                {'a', 'b', 'c', ' ', 'a', 'b', 'c'},
		"[a-z]+":           {257, ' ', 257},
		"[a-z]*":           {257, ' ', 257},
		"[\\x00-\\xff]*":   {257, ' ', 257},
		"ab":               {256, 'c', ' ', 256, 'c'},
		"a|bc":             {'a', 'b', 'c', ' ', 'a', 'b', 'c'},
		"ab|abc a":         {257, ' ', 'a', 'b', 'c'},
		"abc abcd|a":       {'a', 'b', 'c', ' ', 'a', 'b', 'c'},
		"c ab|[a-c]{1,2}":  {256, 'c', ' ', 256, 'c'},
		"c abc|[a-c]{1,2}": {256, 'c', ' ', 257},
	} {
		g := of(row(), theSplit, func(s *api.Stage) { s.Dfa = automaton(x) })
		checkEval(t, g, "abc abc", slices.Concat([]int{1000}, want, []int{2000, 2001})...)
		checkMeant(t, g, "abc abc")
	}
	nothing := of(row(), theSplit, func(s *api.Stage) { s.Dfa = plainDfa(400, 256) })
	checkEval(t, nothing, "abab", 1000, 'a', 'b', 'a', 'b', 2000, 2001)
	s := strings.Repeat("a", mostInput)
	vain := of(bare(times(64, 0)), theSplit, func(s *api.Stage) { s.Dfa = automaton("a*b") })
	vain = of(vain, theMerge, func(s *api.Stage) { s.Merges = doubled('a', 6) })
	checkEval(t, vain, s, idsOf(strings.Repeat("a", mostText))...)
	whole := of(vain, theSplit, func(s *api.Stage) { s.Dfa = automaton("a*") })
	checkEval(t, whole, s, slices.Repeat([]int{261}, mostText/64)...)
}

// P19.1: what stands before and after, in the order of the list, as often as it stands there: any numbers.
func TestEvalFrame(t *testing.T) {
	for _, x := range []struct{ before, after []int }{
		{nil, nil}, {[]int{}, []int{}}, {[]int{0}, nil}, {nil, []int{0}}, {[]int{5}, []int{7}}, {[]int{65535}, []int{65535}}, {[]int{3, 3}, []int{3, 3, 3}}, {[]int{2, 1, 2}, []int{1, 0}},
		{upTo(32), upTo(64)[32:]}, {make([]int, 32), slices.Repeat([]int{65535}, 32)}, {nil, upTo(32)}, {upTo(32), nil}, {[]int{256, 257}, []int{257, 256}},
	} {
		g := of(row(), theFrame, func(s *api.Stage) { s.Before, s.After = x.before, x.after })
		checkEval(t, g, "abc ab", slices.Concat(x.before, []int{257, ' ', 256}, x.after)...)
		checkEval(t, g, "", slices.Concat(x.before, x.after)...)
	}
}

// P19.1: all of it, of stages and texts that are drawn.
func TestEvalDrawn(t *testing.T) {
	changed, merged, parted, long := 0, 0, 0, 0
	for i := range uint64(5000) {
		d := dice(i)
		g := drawnStages(d)
		for range 3 {
			s := text(d, one(d, 3, 12, 30))
			if _, n, _ := reckoned(g, s); n > 300 { // the chapter's words are slow
				long++
				continue
			}
			checkMeant(t, g, s)
			got, _, pieces := reckoned(g, s)
			if got != s {
				changed++
			}
			frame := g[len(g)-1]
			if ids, _ := ir.Eval(g, s); len(ids)-len(frame.Before)-len(frame.After) < len(got) {
				merged++
			}
			if pieces > 1 && pieces < len(got) {
				parted++
			}
		}
		if t.Failed() {
			t.Fatal("at", i)
		}
	}
	if changed < 3000 || merged < 1000 || parted < 2000 || long > 3000 {
		t.Error("these show too little:", changed, merged, parted, long)
	}
}

// reckoned is the text that stages take apart, how long any on the way is, and how many pieces there are.
func reckoned(g []api.Stage, s string) (string, int, int) {
	most := len(s)
	for _, stage := range g[:len(g)-3] {
		s = meantPut(stage.Machine, s)
		most = max(most, len(s))
		if most > 300 {
			return "", most, 0
		}
	}
	split := g[len(g)-3]
	s = meantMapped(split.Map, s)
	return s, most, len(meantPieces(split.Dfa, s))
}

// R1: each call is a function of its arguments alone, also if several call at one time.
func TestCallsAtOneTime(t *testing.T) {
	shared := row(times(2, 0), instead('x', 'a'))
	var group sync.WaitGroup
	for range 16 {
		group.Go(func() {
			for i := range uint64(30) {
				d := dice(90000 + i)
				g := drawnStages(d)
				if s := text(d, 6); len(s) > 0 {
					if _, n, _ := reckoned(g, s); n <= 300 {
						checkMeant(t, g, s)
					}
				}
				checkEval(t, shared, "xb", 1000, 'a', 256, 'b', 2000, 2001)
				checkEvalFails(t, nil, "", api.ErrGraph)
				checkTold(t, drawn(d), text(d, 20))
			}
		})
	}
	group.Wait()
}
