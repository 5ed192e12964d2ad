package heap

import "fretsaw/api"

const none = -1 // no rank, and no place: so the first sign, at 0, has none before it

// sign is an id in a linked list. Its place is that of its first byte, and never changes, so that places rise along the list.
type sign struct {
	id            int
	before, after int // where its neighbours are: none, if there is none
	rank          int // of it and the one after it: none, if no merge is theirs
}

// pair is a sign and the one after it, which a merge may take.
type pair struct{ rank, at int }

func (p pair) ahead(of pair) bool {
	return p.rank < of.rank || p.rank == of.rank && p.at < of.at
}

// row is signs that are being merged, by ranks of merges. Pairs that are not there any more stay in the pile till their turn comes.
type row struct {
	ranks map[api.Merge]int
	signs []sign
	pairs pile[pair]
}

// fill begins with the bytes of a text. Nothing of an earlier text stays: the signs are made anew, and merging has emptied the pile.
func (r *row) fill(s string) {
	r.signs = r.signs[:0]
	for at := range len(s) {
		r.signs = append(r.signs, sign{id: int(s[at]), before: at - 1, after: at + 1})
	}
	if len(s) > 0 {
		r.signs[len(s)-1].after = none
	}
	for at := range r.signs {
		r.look(at)
	}
}

// look finds the rank of a sign and the one after it.
func (r *row) look(at int) {
	s := &r.signs[at]
	s.rank = none
	if s.after == none {
		return
	}
	if k, ok := r.ranks[api.Merge{Left: s.id, Right: r.signs[s.after].id}]; ok {
		s.rank = k
		r.pairs.put(pair{k, at})
	}
}

// merge goes on till no pair is left.
func (r *row) merge() {
	for !r.pairs.empty() {
		p := r.pairs.take()
		if r.signs[p.at].rank == p.rank { // else one of the two has become another sign's part meanwhile
			r.join(p.at)
		}
	}
}

// join makes one sign of two.
func (r *row) join(at int) {
	s := &r.signs[at]
	gone := &r.signs[s.after]
	s.id, s.after = bytes+s.rank, gone.after
	gone.rank = none
	if s.after != none {
		r.signs[s.after].before = at
	}
	r.look(at)
	if s.before != none {
		r.look(s.before)
	}
}

// ids is those of the signs that are left.
func (r *row) ids() []int {
	if len(r.signs) == 0 {
		return nil
	}
	var ids []int
	for at := 0; at != none; at = r.signs[at].after {
		ids = append(ids, r.signs[at].id)
	}
	return ids
}
