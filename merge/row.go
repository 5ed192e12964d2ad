package merge

import (
	"slices"

	"fretsaw/api"
)

const none = api.MaxMerges // stands above all ranks

// row is ids that are being merged. The ranks stand beside them, so that only pairs that are new need be looked up.
type row struct {
	byPair map[api.Merge]int
	ids    []int
	ranks  []int // of each id and the next one: none, if no merge is theirs
}

// merged is ids that may be, merged by merges that may be.
func merged(l []api.Merge, ids []int) []int {
	r := newRow(l, ids)
	for at := r.least(); at >= 0; at = r.least() {
		r.join(at)
	}
	return r.ids
}

func newRow(l []api.Merge, ids []int) *row {
	r := &row{byPair: byPair(l), ids: slices.Clone(ids), ranks: make([]int, len(ids))}
	for at := range ids {
		r.look(at)
	}
	return r
}

// byPair is the rank of each merge: a pair has one at most, since two merges of it would have the same text.
func byPair(l []api.Merge) map[api.Merge]int {
	ranks := make(map[api.Merge]int, len(l))
	for k, m := range l {
		ranks[m] = k
	}
	return ranks
}

// look finds the rank of the pair at a place.
func (r *row) look(at int) {
	r.ranks[at] = none
	if at+1 == len(r.ids) {
		return
	}
	if k, ok := r.byPair[api.Merge{Left: r.ids[at], Right: r.ids[at+1]}]; ok {
		r.ranks[at] = k
	}
}

// least is the first place with the least rank, -1 if no pair is a merge's.
func (r *row) least() int {
	rank, least := none, -1
	for at, k := range r.ranks {
		if k < rank {
			rank, least = k, at
		}
	}
	return least
}

// join makes one id of a pair that is a merge's.
func (r *row) join(at int) {
	r.ids[at] = bytes + r.ranks[at]
	r.ids = slices.Delete(r.ids, at+1, at+2)
	r.ranks = slices.Delete(r.ranks, at+1, at+2)
	r.look(at)
	if at > 0 {
		r.look(at - 1)
	}
}
