package opt_test

import (
	"slices"
	"strings"
	"testing"

	"fretsaw/api"
	"fretsaw/ir"
	"fretsaw/opt"
)

// checkLives asks for the ids that are live.
func checkLives(t *testing.T, g []api.Stage, want ...int) {
	t.Helper()
	if got := lives(checkLive(t, g)); !slices.Equal(got, want) {
		t.Errorf("live, of %s, are %s; want %s", showStages(g), show(got), show(want))
	}
}

// without is the numbers from 0 to 255, but these.
func without(l ...int) []int {
	return slices.DeleteFunc(upTo(256), func(b int) bool { return slices.Contains(l, b) })
}

// these is numbers, rising, each once.
func these(l ...int) []int {
	slices.Sort(l)
	return slices.Compact(l)
}

// P20.1: without a machine, all of Map's bytes.
func TestLiveNoMachine(t *testing.T) {
	g := withMerges(row(), nil)
	checkLives(t, g, upTo(256)...)
	checkLives(t, withMap(g, 'a', 'b'), without('a')...)
	checkLives(t, withMap(g, 'a', 'b', 'b', 'a'), upTo(256)...)
	checkLives(t, withMap(g, 'a', 'b', 'b', 'c', 'c', 'd'), without('a')...)
	for b := range 256 {
		checkLives(t, of(g, theSplit, func(s *api.Stage) { s.Map = [256]uint8(slices.Repeat([]uint8{uint8(b)}, 256)) }), b)
		checkLives(t, withMap(g, byte(b), byte(b+1)), without(b)...)
	}
}

// P20.1: of a machine, what stands in what it puts at a byte, the byte itself, and what it puts at the end.
func TestLivePuts(t *testing.T) {
	none := func(m ...api.Machine) []api.Stage { return withMerges(row(m...), nil) }
	checkLives(t, none(plainMachine(1)), upTo(256)...)
	checkLives(t, none(always("", 0, "")))
	checkLives(t, none(always("ab", 0, "")), 'a', 'b')
	checkLives(t, none(always("", 0, "ba")), 'a', 'b')
	checkLives(t, none(always("a\x00\xff", 0, "zaz")), 0, 'a', 'z', 255)
	checkLives(t, none(always("a", 1, "")), upTo(256)...)
	checkLives(t, none(instead('a', 'b')), without('a')...)
	checkLives(t, none(ruled("a", "")), without('a')...)
	checkLives(t, none(ruled("ab", "")), upTo(256)...)
	checkLives(t, none(always(everything(), 0, "")), upTo(256)...)
	checkLives(t, none(always("", 0, everything()[7:])), upTo(256)[7:]...)
	for b := range 256 { // the byte itself at one byte alone, or a text there
		m := always("", 0, "")
		m.End[0] = 0
		m.Put[0][b] = 1
		checkLives(t, none(m), b)
		m.Texts[1] = "x" + string([]byte{byte(b + 1)})
		m.Put[0][b] = 2
		checkLives(t, none(m), these('x', (b+1)%256)...)
		m.Put[0][b] = 3
		checkLives(t, none(m), these('x', (b+1)%256, b)...)
	}
	checkLives(t, none(always("ab", 0, "c"), always("x", 0, "")), 'x') // the last one alone counts,
	checkLives(t, none(always("ab", 0, "c"), plainMachine(1)), upTo(256)...)
	checkLives(t, withMap(none(always("ab", 0, "c")), 'a', 'c', 'b', 'd'), 'c', 'd') // and then Map
	checkLives(t, withMap(none(always("ab", 0, "c")), 'x', 'y'), 'a', 'b', 'c')
	checkLives(t, withMap(none(always("", 0, "")), 'a', 'b'))
}

// P20.1: states that are not reached count, and texts that are put nowhere do not.
func TestLiveUnmet(t *testing.T) {
	m := always("a", 0, "b")
	m.Texts = append(m.Texts, "nowhere", "c", "d", "e")
	g := withMerges(row(m), nil)
	checkLives(t, g, 'a', 'b')
	unmet := slices.Repeat([]int{0}, 256)
	m.Next, m.Put, m.End = append(m.Next, make([]int, 256)), append(m.Put, unmet), append(m.End, 0)
	g = withMerges(row(m), nil)
	checkLives(t, g, 'a', 'b')
	unmet[255] = 6
	checkLives(t, g, 'a', 'b', 'c')
	unmet[255], unmet[0] = 0, 9
	checkLives(t, g, 0, 'a', 'b', 'd')
	unmet[0], unmet['x'] = 0, 1
	checkLives(t, g, 'a', 'b', 'x')
	unmet['x'], m.End[1] = 0, 5
	checkLives(t, g, 'a', 'b', 'e')
	m.End[0] = 0
	checkLives(t, g, 'a', 'e')
}

// P20.1: what merges make of live ones, if they are not in Drop.
func TestLiveMerges(t *testing.T) {
	abc := pairs('a', 'b', 256, 'c', 'b', 'c', 257, 258)
	checkLives(t, withMerges(row(), abc), upTo(260)...)
	checkLives(t, withMerges(row(), abc, 0), append(upTo(256), 258)...)
	checkLives(t, withMerges(row(), abc, 1), append(upTo(257), 258)...)
	checkLives(t, withMerges(row(), abc, 3), upTo(259)...)
	checkLives(t, withMerges(row(), abc, 0, 1, 2, 3), upTo(256)...)
	checkLives(t, withMerges(row(always("ab", 0, "")), abc), 'a', 'b', 256)
	checkLives(t, withMerges(row(always("bc", 0, "")), abc), 'b', 'c', 258)
	checkLives(t, withMerges(row(always("a", 0, "c")), abc), 'a', 'c')
	checkLives(t, withMerges(row(always("a", 0, "bc")), abc), 'a', 'b', 'c', 256, 257, 258, 259)
	checkLives(t, withMerges(row(always("a", 0, "bc")), abc, 2), 'a', 'b', 'c', 256, 257)
	checkLives(t, withMap(withMerges(row(), abc), 'b', 'x'), without('b')...)
	checkLives(t, withMap(withMerges(row(always("x", 0, "y")), abc), 'x', 'a', 'y', 'b'), 'a', 'b', 256)
	checkLives(t, withMerges(row(always("a", 0, "")), pairs('a', 'a', 256, 256, 257, 256, 258, 'b', 258, 'a')), 'a', 256, 257, 258, 260)
	checkLives(t, withMerges(row(), twoByTwo(1024)), upTo(1280)...)
	checkLives(t, withMerges(row(), twoByTwo(1024), 1023), upTo(1279)...)
	checkLives(t, withMerges(row(), twoByTwo(1024), upTo(1024)...), upTo(256)...)
	for n := range 9 {
		if got := checkLive(t, withMerges(row(always("", 0, "")), twoByTwo(n))); len(got) != 256+n {
			t.Errorf("of %d merges, %d ids are told", n, len(got))
		}
	}
}

// P20.1: all of it, of stages that are drawn.
func TestLiveDrawn(t *testing.T) {
	bytes, merges := 0, 0
	for i := range uint64(3000) {
		g := drawnStages(dice(10000 + i))
		got := checkLive(t, g)
		if n := len(lives(got[:256])); n > 0 && n < 256 {
			bytes++
		}
		if n := len(lives(got[256:])); n > 0 && n+len(g[len(g)-2].Drop) < len(got)-256 {
			merges++
		}
		if t.Failed() {
			t.Fatal("at", i)
		}
	}
	if bytes < 1000 || merges < 400 {
		t.Error("these show too little:", bytes, merges)
	}
}

// P20.4: no id that is not live is told of a text, but by Before and After.
func TestToldAreLive(t *testing.T) {
	told := 0
	for i := range uint64(2000) {
		d := dice(20000 + i)
		g := drawnStages(d)
		frame := g[len(g)-1]
		live, _ := opt.Live(g)
		for _, s := range []string{text(d, 5), text(d, 12), text(d, 30), everything()} {
			ids, e := ir.Eval(g, s)
			if e != api.OK {
				continue
			}
			for _, id := range ids[len(frame.Before) : len(ids)-len(frame.After)] {
				if told++; !live[id] {
					t.Fatalf("at %d: %d is told of %s by %s, but not live", i, id, show(s), showStages(g))
				}
			}
		}
	}
	if told < 100000 {
		t.Error("these show too little:", told)
	}
	g := of(withMerges(row(always("ab", 0, "")), pairs('c', 'd')), theFrame, func(s *api.Stage) { s.Before, s.After = []int{'c'}, []int{256} })
	if ids, e := ir.Eval(g, "q"); e != api.OK || !slices.Equal(ids, []int{'c', 'a', 'b', 256}) {
		t.Error("the frame tells", ids, e)
	}
	checkLives(t, g, 'a', 'b') // what stands before and after does not count
	checkDrop(t, g, 0)
}

// P20.4: a merge of Drop behind Dead is one that is never done: were it not dropped, nothing else would be told.
func TestDeadAreNeverDone(t *testing.T) {
	dead := 0
	for i := range uint64(1500) {
		d := dice(30000 + i)
		g := drawnStages(d)
		g[len(g)-2].Drop = nil
		drop := checkRun(t, g, 16)[len(g)-2].Drop
		dead += len(drop)
		frame := g[len(g)-1]
		for _, s := range []string{text(d, 8), text(d, 30), strings.Repeat("ab c", 5), everything()} {
			ids, e := ir.Eval(g, s)
			if e != api.OK {
				continue
			}
			for _, id := range ids[len(frame.Before) : len(ids)-len(frame.After)] {
				if slices.Contains(drop, id-256) {
					t.Fatalf("at %d: the merge %d is done of %s by %s", i, id-256, show(s), showStages(g))
				}
			}
		}
	}
	if dead < 1000 {
		t.Error("these show too little:", dead)
	}
}
