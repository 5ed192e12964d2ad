package opt

import (
	"slices"

	"fretsaw/api"
	"fretsaw/mini"
	"fretsaw/trans"
)

// fuse makes one machine of two, the first two of which that can be made, as long as there are such two. Of those ahead of the two just one has got another neighbour, so that it goes on from there.
func fuse(p *parts) {
	for i := 0; i+1 < len(p.machines); {
		one, e := trans.Then(p.machines[i], p.machines[i+1])
		if e != api.OK {
			i++
			continue
		}
		p.machines = slices.Replace(p.machines, i, i+2, one)
		i = max(i-1, 0)
	}
}

// leaveEmpty leaves machines out that put each byte itself.
func leaveEmpty(p *parts) {
	p.machines = slices.DeleteFunc(p.machines, func(m api.Machine) bool {
		to, ok := trans.Bytes(m)
		return ok && to == itself()
	})
}

// itself has each byte in its own place.
func itself() [all]uint8 {
	var to [all]uint8
	for b := range to {
		to[b] = uint8(b)
	}
	return to
}

// mapBytes lets the splitter's Map do what the last machines do, as long as these put just a byte for each.
func mapBytes(p *parts) {
	for n := len(p.machines) - 1; n >= 0; n-- {
		bytes, ok := trans.Bytes(p.machines[n])
		if !ok {
			return
		}
		to := p.to
		for b, put := range bytes {
			p.to[b] = to[put]
		}
		p.machines = p.machines[:n]
	}
}

// makeLeast has no error to tell: the dfa of stages that fit may be.
func makeLeast(p *parts) {
	p.dfa, _ = mini.Least(p.dfa)
}

// dropDead leaves out all merges whose ids are not live: what is left out already makes none that is, and neither does a merge of what is not live; and no other merge makes the same id.
func dropDead(p *parts) {
	var drop []int
	for k, is := range p.live()[all:] {
		if !is {
			drop = append(drop, k)
		}
	}
	p.drop = drop
}
