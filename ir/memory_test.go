package ir_test

import (
	"slices"
	"testing"
	"unsafe"

	"fretsaw/api"
	"fretsaw/ir"
)

// span is where memory lies.
type span struct{ from, to uintptr }

// listSpan is a list's, with what stands behind it up to its capacity.
func listSpan[E any](l []E) span {
	var e E
	from := uintptr(unsafe.Pointer(unsafe.SliceData(l)))
	return span{from, from + uintptr(cap(l))*unsafe.Sizeof(e)}
}

func textSpan(s string) span {
	from := uintptr(unsafe.Pointer(unsafe.StringData(s)))
	return span{from, from + uintptr(len(s))}
}

// meets tells whether two lie in the same memory.
func (s span) meets(other span) bool { return s.from < other.to && other.from < s.to }

// configSpans is those of a configuration's lists and texts.
func configSpans(c api.Config) []span {
	l := []span{listSpan(c.Passes), listSpan(c.Merges), listSpan(c.Names), listSpan(c.Before), listSpan(c.After)}
	for _, pass := range c.Passes {
		l = append(l, listSpan(pass))
		for _, r := range pass {
			l = append(l, textSpan(r.From), textSpan(r.To))
		}
	}
	return l
}

// stageSpans is those of stages' lists and texts.
func stageSpans(g []api.Stage) []span {
	l := []span{listSpan(g)}
	for _, s := range g {
		l = append(l, listSpan(s.Machine.Next), listSpan(s.Machine.Put), listSpan(s.Machine.End), listSpan(s.Machine.Texts))
		l = append(l, listSpan(s.Dfa.Next), listSpan(s.Dfa.Accept), listSpan(s.Merges), listSpan(s.Drop), listSpan(s.Before), listSpan(s.After))
		for _, row := range slices.Concat(s.Machine.Next, s.Machine.Put, s.Dfa.Next) {
			l = append(l, listSpan(row))
		}
		for _, s := range s.Machine.Texts {
			l = append(l, textSpan(s))
		}
	}
	return l
}

func sameRows(a, b [][]int) bool { return slices.EqualFunc(a, b, slices.Equal[[]int]) }

func sameMachine(a, b api.Machine) bool {
	return sameRows(a.Next, b.Next) && sameRows(a.Put, b.Put) && slices.Equal(a.End, b.End) && slices.Equal(a.Texts, b.Texts)
}

func sameDfa(a, b api.Dfa) bool {
	return a.Class == b.Class && sameRows(a.Next, b.Next) && slices.Equal(a.Accept, b.Accept)
}

func sameStage(a, b api.Stage) bool {
	return a.Kind == b.Kind && sameMachine(a.Machine, b.Machine) && sameDfa(a.Dfa, b.Dfa) && a.Map == b.Map &&
		slices.Equal(a.Merges, b.Merges) && slices.Equal(a.Drop, b.Drop) && slices.Equal(a.Before, b.Before) && slices.Equal(a.After, b.After)
}

func sameTree(a, b api.Re) bool {
	return a.Kind == b.Kind && a.Set == b.Set && a.Min == b.Min && a.Max == b.Max && slices.EqualFunc(a.Kids, b.Kids, sameTree)
}

func sameConfig(a, b api.Config) bool {
	return slices.EqualFunc(a.Passes, b.Passes, slices.Equal) && sameTree(a.Split, b.Split) && slices.Equal(a.Merges, b.Merges) &&
		slices.Equal(a.Names, b.Names) && slices.Equal(a.Before, b.Before) && slices.Equal(a.After, b.After)
}

func copiedRows(l [][]int) [][]int {
	l = slices.Clone(l)
	for i := range l {
		l[i] = slices.Clone(l[i])
	}
	return l
}

func copiedStages(g []api.Stage) []api.Stage {
	g = slices.Clone(g)
	for i := range g {
		s := &g[i]
		s.Machine = api.Machine{Next: copiedRows(s.Machine.Next), Put: copiedRows(s.Machine.Put), End: slices.Clone(s.Machine.End), Texts: slices.Clone(s.Machine.Texts)}
		s.Dfa.Next, s.Dfa.Accept = copiedRows(s.Dfa.Next), slices.Clone(s.Dfa.Accept)
		s.Merges, s.Drop = slices.Clone(s.Merges), slices.Clone(s.Drop)
		s.Before, s.After = slices.Clone(s.Before), slices.Clone(s.After)
	}
	return g
}

func copiedTree(t api.Re) api.Re {
	t.Kids = slices.Clone(t.Kids)
	for i := range t.Kids {
		t.Kids[i] = copiedTree(t.Kids[i])
	}
	return t
}

func copiedConfig(c api.Config) api.Config {
	c.Passes = slices.Clone(c.Passes)
	for i := range c.Passes {
		c.Passes[i] = slices.Clone(c.Passes[i])
	}
	c.Split = copiedTree(c.Split)
	c.Merges, c.Names = slices.Clone(c.Merges), slices.Clone(c.Names)
	c.Before, c.After = slices.Clone(c.Before), slices.Clone(c.After)
	return c
}

// R4: stages are new memory, and no two of their lists share any; the configuration stays as it is.
func TestStagesAreTheirOwn(t *testing.T) {
	for i := range uint64(150) {
		c := drawn(dice(80000 + i))
		if i%5 == 0 {
			c.Passes = [][]api.Rule{rules("a", "b"), rules("a", "b")}
			c.Names, c.Before = numbered(3), []int{2, 0, 1}
			c.After = c.Before
		}
		kept := copiedConfig(c)
		g, e := ir.Lower(c)
		again, _ := ir.Lower(c)
		if e == api.ErrStates {
			continue
		}
		spans := stageSpans(g)
		for j, s := range spans {
			for _, other := range slices.Concat(spans[:j], configSpans(c), stageSpans(again)) {
				if s.meets(other) {
					t.Fatal("Lower shares its memory", show(c))
				}
			}
		}
		if !sameConfig(c, kept) {
			t.Errorf("%s was given, and is %s", show(kept), show(c))
		}
		if !slices.EqualFunc(g, again, sameStage) {
			t.Errorf("Lower(%s) tells %s, and then %s", show(c), showStages(g), showStages(again))
		}
	}
}

// R4: ids are new memory; stages stay as they are, also behind the end of their lists.
func TestIdsAreTheirOwn(t *testing.T) {
	for i := range uint64(300) {
		d := dice(81000 + i)
		g := drawnStages(d)
		s := text(d, 20)
		if i%3 == 0 { // nothing but what stands before, or after
			g[len(g)-1].After, s = nil, ""
		} else if i%3 == 1 {
			g[len(g)-1].Before, s = nil, ""
		}
		kept := copiedStages(g)
		ids, _ := ir.Eval(g, s)
		others, _ := ir.Eval(g, s)
		for _, given := range append(stageSpans(g), listSpan(others)) {
			if listSpan(ids).meets(given) {
				t.Error("Eval shares its memory", showStages(g), show(s))
			}
		}
		ir.Right(g)
		if !slices.EqualFunc(g, kept, sameStage) {
			t.Errorf("%s was given, and is %s", showStages(kept), showStages(g))
		}
	}
	frames := upTo(9)
	g := of(row(), theFrame, func(s *api.Stage) { s.Before, s.After = frames[:3], frames[5:6] })
	checkEval(t, g, "ab", 0, 1, 2, 256, 5)
	if !slices.Equal(frames, upTo(9)) {
		t.Error("what stands behind Before, or After, was changed", frames)
	}
}
