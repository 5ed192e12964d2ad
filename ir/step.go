package ir

import (
	"slices"

	"fretsaw/api"
	"fretsaw/dfa"
	"fretsaw/heap"
	"fretsaw/piece"
	"fretsaw/trans"
)

const maxId = 65535 // of those that may stand before and after

// step is a stage by its kind, with no more than that kind needs.
type step interface {
	may() bool            // whether what it needs may be
	do(f *flow) api.Errno // goes on from what the stage ahead left; asked only of one that may be
}

// flow is what goes from stage to stage: a text, at last its pieces, and then their ids.
type flow struct {
	text   string
	pieces []string
	ids    []int
}

// stepOf is nil, if the kind is none.
func stepOf(s api.Stage) step {
	switch s.Kind {
	case api.SMap:
		return mapper{s.Machine}
	case api.SSplit:
		return splitter{s.Dfa, s.Map}
	case api.SMerge:
		return merger{s.Merges, s.Drop}
	case api.SFrame:
		return framer{s.Before, s.After}
	}
	return nil
}

type mapper struct{ m api.Machine }

func (p mapper) may() bool { return trans.Right(p.m) }

// do goes along the text itself, since trans.Run takes none that is as long as one may be here. It stops as soon as too much is put, since a machine may put some thousand bytes at each.
func (p mapper) do(f *flow) api.Errno {
	var out []byte
	state := 0
	for i := 0; i < len(f.text) && len(out) <= maxText; i++ {
		out, state = p.over(out, state, f.text[i])
	}
	out = append(out, p.m.Texts[p.m.End[state]]...)
	if len(out) > maxText {
		return api.ErrLong
	}
	f.text = string(out)
	return api.OK
}

// over goes over one byte.
func (p mapper) over(out []byte, state int, b byte) ([]byte, int) {
	put := p.m.Put[state][b]
	out = append(out, p.m.Texts[put/2]...)
	if put%2 == 1 {
		out = append(out, b)
	}
	return out, p.m.Next[state][b]
}

type splitter struct {
	d  api.Dfa
	to [256]uint8
}

func (p splitter) may() bool { return dfa.Right(p.d) }

func (p splitter) do(f *flow) api.Errno {
	text := []byte(f.text)
	for i, b := range text {
		text[i] = p.to[b]
	}
	var e api.Errno
	f.pieces, e = piece.Texts(p.d, string(text))
	return e
}

type merger struct {
	merges []api.Merge
	drop   []int
}

// may asks for an engine, since there is one of just those merges and numbers that may be.
func (p merger) may() bool {
	_, e := heap.New(p.merges, p.drop)
	return e == api.OK
}

func (p merger) do(f *flow) api.Errno {
	engine, e := heap.New(p.merges, p.drop)
	if e != api.OK {
		return e
	}
	for _, s := range f.pieces {
		ids, e := engine.Tokens(s)
		if e != api.OK {
			return e
		}
		f.ids = append(f.ids, ids...)
	}
	return api.OK
}

type framer struct{ before, after []int }

func (p framer) may() bool { return areIds(p.before) && areIds(p.after) }

// areIds tells whether a list may stand before or after.
func areIds(l []int) bool {
	return len(l) <= api.MaxFrame && !slices.ContainsFunc(l, func(id int) bool { return id < 0 || id > maxId })
}

func (p framer) do(f *flow) api.Errno {
	f.ids = slices.Concat(p.before, f.ids, p.after)
	return api.OK
}
