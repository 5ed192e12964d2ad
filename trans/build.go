package trans

import (
	"fretsaw/api"
	"fretsaw/rule"
)

// Build makes a machine of rules. Its states are the texts that wait: as much of the text as is read, but not rewritten yet, since a longer From may begin there.
func Build(l []api.Rule) (api.Machine, api.Errno) {
	if e := rule.Right(l); e != api.OK {
		return api.Machine{}, e
	}
	r := newRewriter(l)
	return machine(plan[string]{step: r.step, end: r.end}, "")
}

// rewriter rewrites by rules, byte by byte.
type rewriter struct {
	rules  []api.Rule
	starts map[string]start // of Froms, and of what they begin with
	falls  map[string]fall  // of those texts that wait of which it was asked
}

// start is what a text is to the rules.
type start struct {
	waits bool   // a longer From begins with it
	whole bool   // it is a From,
	to    string // in whose place this is put
}

// fall is what becomes of a text that waits for what does not come: what is put of it, and what waits then.
type fall struct{ puts, waits string }

func newRewriter(l []api.Rule) *rewriter {
	r := &rewriter{rules: l, starts: map[string]start{}, falls: map[string]fall{}}
	for _, one := range l {
		is := r.starts[one.From]
		is.whole, is.to = true, one.To
		r.starts[one.From] = is
		for n := range len(one.From) {
			is := r.starts[one.From[:n]]
			is.waits = true
			r.starts[one.From[:n]] = is
		}
	}
	return r
}

// step reads a byte behind a text that waits. What waits gets shorter with each fall, so that falling comes to an end.
func (r *rewriter) step(out []byte, waits string, b byte) ([]byte, string) {
	longer := waits + string([]byte{b})
	is := r.starts[longer]
	switch {
	case is.waits:
		return out, longer
	case is.whole:
		return append(out, is.to...), ""
	case waits == "":
		return append(out, b), ""
	}
	f := r.fall(waits)
	return r.step(append(out, f.puts...), f.waits, b)
}

// fall rewrites at the beginning of a text that waits, and reads what is behind that again.
func (r *rewriter) fall(waits string) fall {
	if f, found := r.falls[waits]; found {
		return f
	}
	out, rest := r.first(waits)
	again := ""
	for i := range len(rest) {
		out, again = r.step(out, again, rest[i])
	}
	f := fall{puts: string(out), waits: again}
	r.falls[waits] = f
	return f
}

// first is what is put where a text begins, by the longest From with which it does, and the text behind that.
func (r *rewriter) first(s string) ([]byte, string) {
	for n := len(s); n > 0; n-- {
		if is := r.starts[s[:n]]; is.whole {
			return []byte(is.to), s[n:]
		}
	}
	return []byte{s[0]}, s[1:]
}

// end rewrites what still waits as the text that it is. That has no error: the rules may be, and the text is short.
func (r *rewriter) end(out []byte, waits string) []byte {
	s, _ := rule.Apply(r.rules, waits)
	return append(out, s...)
}
