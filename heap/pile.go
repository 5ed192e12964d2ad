package heap

// ordered is what can tell whether it comes ahead of another one of its kind.
type ordered[E any] interface {
	ahead(of E) bool
}

// pile is a heap: of the items 2 i + 1 and 2 i + 2 none comes ahead of the item i, so that none comes ahead of the first one.
type pile[E ordered[E]] struct {
	items []E
}

func (p *pile[E]) empty() bool {
	return len(p.items) == 0
}

func (p *pile[E]) put(x E) {
	p.items = append(p.items, x)
	at := len(p.items) - 1
	for at > 0 && x.ahead(p.items[(at-1)/2]) {
		p.items[at] = p.items[(at-1)/2]
		at = (at - 1) / 2
	}
	p.items[at] = x
}

// take takes out of a pile that is not empty what no other one comes ahead of.
func (p *pile[E]) take() E {
	first, end := p.items[0], len(p.items)-1
	last := p.items[end]
	p.items = p.items[:end]
	if end > 0 {
		p.sink(last)
	}
	return first
}

// sink puts x in the place of the first one.
func (p *pile[E]) sink(x E) {
	at := 0
	for kid := p.kid(at); kid > 0 && p.items[kid].ahead(x); kid = p.kid(at) {
		p.items[at] = p.items[kid]
		at = kid
	}
	p.items[at] = x
}

// kid is where the one of the two below stands that may come up, 0 if there is none below.
func (p *pile[E]) kid(at int) int {
	kid := 2*at + 1
	if kid >= len(p.items) {
		return 0
	}
	if kid+1 < len(p.items) && p.items[kid+1].ahead(p.items[kid]) {
		kid++
	}
	return kid
}

type number int

func (n number) ahead(of number) bool {
	return n < of
}
