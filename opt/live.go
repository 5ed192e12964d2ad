package opt

import (
	"slices"

	"fretsaw/api"
)

// live tells of each id whether some text may have it. A merge takes ids ahead of its own alone, so that each merge is looked at once, rising.
func (p *parts) live() []bool {
	is := make([]bool, all)
	for b, may := range p.comes() {
		if may {
			is[p.to[b]] = true
		}
	}
	for k, m := range p.merges {
		_, dropped := slices.BinarySearch(p.drop, k)
		is = append(is, !dropped && is[m.Left] && is[m.Right])
	}
	return is
}

// comes tells of each byte whether it may come to the splitter.
func (p *parts) comes() [all]bool {
	if n := len(p.machines); n > 0 {
		return puts(p.machines[n-1])
	}
	var may [all]bool
	for b := range may {
		may[b] = true
	}
	return may
}

// puts tells of each byte whether a machine may put it, whether one can come to the state or not. Texts are looked through behind it all, since many states may put the same long one.
func puts(m api.Machine) [all]bool {
	var may [all]bool
	texts := make([]bool, len(m.Texts))
	for state, row := range m.Put {
		for b, put := range row {
			texts[put/2] = true
			may[b] = may[b] || put%2 == 1
		}
		texts[m.End[state]] = true
	}
	for i, s := range m.Texts {
		for j := 0; j < len(s) && texts[i]; j++ {
			may[s[j]] = true
		}
	}
	return may
}
