package vm

// wait is a pair that waits to be merged: its rank times 2^32, and where it stands. So the least one is that of the least rank, of these the first.
type wait uint64

// waitOf is that of a pair of which Pairs tell a value: its rank is the value's upper half.
func waitOf(value uint64, at int) wait {
	return wait(value>>32<<32 + uint64(at))
}

func (w wait) at() int {
	return int(w % (1 << 32))
}

// pile is a heap: of the ones at 2 i + 1 and 2 i + 2 none is less than the one at i, so that none is less than the first one.
type pile []wait

func (p *pile) put(w wait) {
	l := append(*p, w)
	*p = l
	at := len(l) - 1
	for at > 0 && w < l[(at-1)/2] {
		l[at] = l[(at-1)/2]
		at = (at - 1) / 2
	}
	l[at] = w
}

// take takes the least one out of a pile that is not empty.
func (p *pile) take() wait {
	l := *p
	first, last := l[0], l[len(l)-1]
	l = l[:len(l)-1]
	*p = l
	if len(l) > 0 {
		l.sink(last)
	}
	return first
}

// sink puts a wait in the place of the first one.
func (l pile) sink(w wait) {
	at := 0
	for kid := l.kid(at); kid > 0 && l[kid] < w; kid = l.kid(at) {
		l[at] = l[kid]
		at = kid
	}
	l[at] = w
}

// kid is where the lesser one of the two below stands, 0 if there is none below.
func (l pile) kid(at int) int {
	kid := 2*at + 1
	if kid >= len(l) {
		return 0
	}
	if kid+1 < len(l) && l[kid+1] < l[kid] {
		kid++
	}
	return kid
}
