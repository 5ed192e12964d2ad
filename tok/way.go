package tok

import (
	"fretsaw/api"
	"fretsaw/rule"
)

// normal is the normal text of one that is not too long, by a configuration that may be.
func normal(c api.Config, s string) string {
	w := way{text: s, left: c.Passes}
	for pass := w.pass; pass(); {
	}
	return w.text
}

// way is a text on its way through passes.
type way struct {
	text string
	left [][]api.Rule
}

// pass goes through the next one, and tells whether there was one. It asks for no error: the rules may be, and all passes make no more of a byte than rule.Apply has room for.
func (w *way) pass() bool {
	if len(w.left) == 0 {
		return false
	}
	w.text, _ = rule.Apply(w.left[0], w.text)
	w.left = w.left[1:]
	return true
}
