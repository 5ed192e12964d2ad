package opt

import (
	"strings"

	"fretsaw/api"
)

const (
	all  = 256 // bytes that there are: the ids of merges stand behind them
	ends = 3   // stages that stand behind those of machines
)

// parts is what stages that fit have: of each kind no more than it needs. Passes put something else in place of a part, and change nothing within one, since what is within was given.
type parts struct {
	machines      []api.Machine
	dfa           api.Dfa
	to            [all]uint8 // the splitter's Map
	merges        []api.Merge
	drop          []int
	before, after []int
}

func partsOf(g []api.Stage) *parts {
	n := len(g) - ends
	split, merge, frame := g[n], g[n+1], g[n+2]
	p := &parts{
		dfa: split.Dfa, to: split.Map,
		merges: merge.Merges, drop: merge.Drop,
		before: frame.Before, after: frame.After,
	}
	for _, s := range g[:n] {
		p.machines = append(p.machines, s.Machine)
	}
	return p
}

// stages puts parts together, in new memory.
func (p *parts) stages() []api.Stage {
	var g []api.Stage
	for _, m := range p.machines {
		g = append(g, api.Stage{Kind: api.SMap, Machine: ownMachine(m)})
	}
	return append(g,
		api.Stage{Kind: api.SSplit, Dfa: ownDfa(p.dfa), Map: p.to},
		api.Stage{Kind: api.SMerge, Merges: own(p.merges), Drop: own(p.drop)},
		api.Stage{Kind: api.SFrame, Before: own(p.before), After: own(p.after)},
	)
}

// own is a list in new memory. One without elements is nil, since a part of a list that was given may be one, too.
func own[E any](l []E) []E { return append([]E(nil), l...) }

func ownMachine(m api.Machine) api.Machine {
	o := api.Machine{Next: ownRows(m.Next), Put: ownRows(m.Put), End: own(m.End)}
	for _, s := range m.Texts {
		o.Texts = append(o.Texts, strings.Clone(s))
	}
	return o
}

func ownDfa(d api.Dfa) api.Dfa {
	return api.Dfa{Class: d.Class, Next: ownRows(d.Next), Accept: own(d.Accept)}
}

func ownRows(rows [][]int) [][]int {
	var l [][]int
	for _, row := range rows {
		l = append(l, own(row))
	}
	return l
}
