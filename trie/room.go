package trie

// room tells which places are taken, as far as it reaches; behind that, all are free.
type room struct {
	taken []bool
	free  int // the first place that is free
}

// settled finds each node with kids a base that sends them to places of their own, and tells how many places there are then. That is never too many: with 2048 words few nodes have two kids or more, and all other kids find the first free place.
func settled(g tree) ([]int, int) {
	bases := make([]int, len(g.nodes))
	r := room{taken: []bool{true}, free: 1} // the first node's own place is 0
	for _, i := range g.parents() {
		var bytes []byte
		for b := range g.kids(g.nodes[i]) {
			bytes = append(bytes, b)
		}
		bases[i] = r.base(bytes)
		r.take(bases[i], bytes)
	}
	return bases, len(r.taken)
}

// base is one that sends all of these bytes, which rise, to free places, the first of them to the first place that will do.
func (r *room) base(bytes []byte) int {
	at := r.free
seek:
	for {
		base := at - place(0, bytes[0])
		for _, b := range bytes {
			if r.isTaken(place(base, b)) {
				at++
				continue seek
			}
		}
		return base
	}
}

func (r *room) isTaken(at int) bool {
	return at < len(r.taken) && r.taken[at]
}

// take takes the places that a base sends bytes to.
func (r *room) take(base int, bytes []byte) {
	for _, b := range bytes {
		at := place(base, b)
		for at >= len(r.taken) {
			r.taken = append(r.taken, false)
		}
		r.taken[at] = true
	}
	for r.isTaken(r.free) {
		r.free++
	}
}
