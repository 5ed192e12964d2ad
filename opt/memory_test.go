package opt_test

import (
	"slices"
	"strings"
	"testing"
	"unsafe"

	"fretsaw/api"
	"fretsaw/opt"
)

// span is where memory lies.
type span struct{ from, to uintptr }

// listSpan is a list's, with what stands behind it up to its capacity.
func listSpan[E any](l []E) span {
	var e E
	from := uintptr(unsafe.Pointer(unsafe.SliceData(l)))
	return span{from, from + uintptr(cap(l))*unsafe.Sizeof(e)}
}

func textSpan(s string) span {
	from := uintptr(unsafe.Pointer(unsafe.StringData(s)))
	return span{from, from + uintptr(len(s))}
}

// meets tells whether two lie in the same memory.
func (s span) meets(other span) bool { return s.from < other.to && other.from < s.to }

// stageSpans is those of stages' lists and texts.
func stageSpans(g []api.Stage) []span {
	l := []span{listSpan(g)}
	for _, s := range g {
		l = append(l, listSpan(s.Machine.Next), listSpan(s.Machine.Put), listSpan(s.Machine.End), listSpan(s.Machine.Texts))
		l = append(l, listSpan(s.Dfa.Next), listSpan(s.Dfa.Accept), listSpan(s.Merges), listSpan(s.Drop), listSpan(s.Before), listSpan(s.After))
		for _, row := range slices.Concat(s.Machine.Next, s.Machine.Put, s.Dfa.Next) {
			l = append(l, listSpan(row))
		}
		for _, s := range s.Machine.Texts {
			l = append(l, textSpan(s))
		}
	}
	return l
}

func sameRows(a, b [][]int) bool { return slices.EqualFunc(a, b, slices.Equal[[]int]) }

func sameMachine(a, b api.Machine) bool {
	return sameRows(a.Next, b.Next) && sameRows(a.Put, b.Put) && slices.Equal(a.End, b.End) && slices.Equal(a.Texts, b.Texts)
}

func sameDfa(a, b api.Dfa) bool {
	return a.Class == b.Class && sameRows(a.Next, b.Next) && slices.Equal(a.Accept, b.Accept)
}

func sameStage(a, b api.Stage) bool {
	return a.Kind == b.Kind && sameMachine(a.Machine, b.Machine) && sameDfa(a.Dfa, b.Dfa) && a.Map == b.Map &&
		slices.Equal(a.Merges, b.Merges) && slices.Equal(a.Drop, b.Drop) && slices.Equal(a.Before, b.Before) && slices.Equal(a.After, b.After)
}

func copiedRows(l [][]int) [][]int {
	l = slices.Clone(l)
	for i := range l {
		l[i] = slices.Clone(l[i])
	}
	return l
}

func copiedStages(g []api.Stage) []api.Stage {
	g = slices.Clone(g)
	for i := range g {
		s := &g[i]
		s.Machine = api.Machine{Next: copiedRows(s.Machine.Next), Put: copiedRows(s.Machine.Put), End: slices.Clone(s.Machine.End), Texts: slices.Clone(s.Machine.Texts)}
		s.Dfa.Next, s.Dfa.Accept = copiedRows(s.Dfa.Next), slices.Clone(s.Dfa.Accept)
		s.Merges, s.Drop = slices.Clone(s.Merges), slices.Clone(s.Drop)
		s.Before, s.After = slices.Clone(s.Before), slices.Clone(s.After)
	}
	return g
}

// tangled is stages whose lists share their memory, and have something behind their ends.
func tangled() []api.Stage {
	line := slices.Repeat([]int{0}, 600)
	text := strings.Repeat("ab", 40)
	machine := api.Machine{Next: [][]int{line[:256], line[100:356], line[:256]}, Put: [][]int{line[:256], line[3:259], line[:256]}, End: line[5:8], Texts: []string{text[:1], text[1:2], text[:7], text[:7], ""}}
	d := api.Dfa{Next: [][]int{line[:1], line[:1], line[1:2]}, Accept: make([]bool, 3, 9)}
	g := []api.Stage{
		{Kind: api.SMap, Machine: machine}, {Kind: api.SMap, Machine: machine},
		{Kind: api.SSplit, Dfa: d, Map: mapOf('a', 'b')},
		{Kind: api.SMerge, Merges: twoByTwo(9)[:5], Drop: upTo(9)[2:4]},
		{Kind: api.SFrame, Before: line[4:9], After: line[5:11]},
	}
	return g
}

// R4: stages are new memory, and no two of their lists share any; those that were given stay as they are.
func TestStagesAreTheirOwn(t *testing.T) {
	for i := range uint64(60) {
		g := drawnStages(dice(80000 + i))
		if i%10 == 0 {
			g = tangled()
		}
		kept := copiedStages(g)
		for passes := range 32 {
			if passes&(passes-1) > 0 && passes != 31 && (i+uint64(passes))%5 > 0 {
				continue
			}
			got, e := opt.Run(g, passes)
			again, _ := opt.Run(g, passes)
			spans, given := stageSpans(got), slices.Concat(stageSpans(g), stageSpans(again))
			for j, s := range spans {
				if slices.ContainsFunc(slices.Concat(spans[:j], given), s.meets) {
					t.Fatalf("Run(%s, %d) shares its memory", showStages(g), passes)
				}
			}
			if e != api.OK || !slices.EqualFunc(g, kept, sameStage) {
				t.Errorf("%s was given, and is %s behind %d, %d", showStages(kept), showStages(g), passes, e)
			}
			if !slices.EqualFunc(got, again, sameStage) {
				t.Errorf("Run(%s, %d) tells %s, and then %s", showStages(g), passes, showStages(got), showStages(again))
			}
		}
	}
}

// R4: of Live, too.
func TestLivesAreTheirOwn(t *testing.T) {
	for i := range uint64(200) {
		g := drawnStages(dice(81000 + i))
		if i == 0 {
			g = tangled()
		}
		kept := copiedStages(g)
		got, _ := opt.Live(g)
		again, _ := opt.Live(g)
		for _, given := range append(stageSpans(g), listSpan(again)) {
			if listSpan(got).meets(given) {
				t.Error("Live shares its memory", showStages(g))
			}
		}
		if !slices.EqualFunc(g, kept, sameStage) || !slices.Equal(got, again) {
			t.Errorf("%s was given, and is %s", showStages(kept), showStages(g))
		}
	}
}

// R4: what stands behind the ends of lists stays, too.
func TestBehindTheEnds(t *testing.T) {
	machines := row(instead('a', 'b'), instead('b', 'c'), plainMachine(1), ruled("aa", "b"))
	drop, merges := upTo(6), twoByTwo(9)
	g := withMerges(machines, merges[:5], drop[:2]...)
	g[len(g)-2].Drop = drop[:2]
	kept := copiedStages(machines)
	for passes := range 32 {
		checkRun(t, g, passes)
		checkRun(t, g[2:], passes)
		if !slices.Equal(drop, upTo(6)) || !slices.Equal(merges, twoByTwo(9)) || !slices.EqualFunc(machines, kept, sameStage) {
			t.Fatal("something was changed by", passes)
		}
	}
}
