package ir

import (
	"slices"

	"fretsaw/api"
	"fretsaw/config"
	"fretsaw/dfa"
	"fretsaw/mini"
	"fretsaw/nfa"
	"fretsaw/trans"
)

const bytes = 256 // ids that are bytes: behind them stand those of merges, then those of names

// Lower makes stages of a configuration. They need no more room for texts than there is: a configuration that may be makes at most 32 bytes of one.
func Lower(c api.Config) ([]api.Stage, api.Errno) {
	if e := config.Right(c); e != api.OK {
		return nil, e
	}
	g, e := passes(c.Passes)
	if e != api.OK {
		return nil, e
	}
	d, e := least(c.Split)
	if e != api.OK {
		return nil, e
	}
	first := bytes + len(c.Merges)
	return append(g,
		api.Stage{Kind: api.SSplit, Dfa: d, Map: itself()},
		api.Stage{Kind: api.SMerge, Merges: slices.Concat(c.Merges)},
		api.Stage{Kind: api.SFrame, Before: named(first, c.Before), After: named(first, c.After)},
	), api.OK
}

// passes makes a stage of each pass.
func passes(l [][]api.Rule) ([]api.Stage, api.Errno) {
	var g []api.Stage
	for _, rules := range l {
		m, e := trans.Build(rules)
		if e != api.OK {
			return nil, e
		}
		g = append(g, api.Stage{Kind: api.SMap, Machine: m})
	}
	return g, api.OK
}

// least is the least dfa of an expression.
func least(t api.Re) (api.Dfa, api.Errno) {
	n, e := nfa.Build(t)
	if e != api.OK {
		return api.Dfa{}, e
	}
	d, e := dfa.Build(n)
	if e != api.OK {
		return api.Dfa{}, e
	}
	return mini.Least(d)
}

// itself has each byte in its own place.
func itself() [256]uint8 {
	var to [256]uint8
	for b := range to {
		to[b] = uint8(b)
	}
	return to
}

// named is the ids of names, the first name's given.
func named(first int, names []int) []int {
	var ids []int
	for _, n := range names {
		ids = append(ids, first+n)
	}
	return ids
}
