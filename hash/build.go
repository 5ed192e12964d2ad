package hash

import (
	"cmp"
	"slices"

	"fretsaw/api"
)

const shared = 2 // keys for each seed: fewer make more seeds than needed, and more make them hard to find

// entry is a key with its value.
type entry struct{ key, val uint64 }

// Build makes a hash of keys and their values.
func Build(keys, vals []uint64) (api.Hash, api.Errno) {
	if len(keys) != len(vals) {
		return api.Hash{}, api.ErrArg
	}
	if len(keys) > api.MaxKeys {
		return api.Hash{}, api.ErrLong
	}
	entries := sorted(keys, vals)
	plain := api.Hash{Keys: make([]uint64, len(keys)), Vals: make([]uint64, len(keys))}
	for i, e := range entries {
		plain.Keys[i], plain.Vals[i] = e.key, e.val
	}
	if !rise(plain.Keys) {
		return api.Hash{}, api.ErrTwice
	}
	seeds, found := seedsOf(plain.Keys)
	if !found {
		return plain, api.OK
	}
	return seeded(entries, seeds), api.OK
}

// sorted is the keys with their values, the least key first: all that follows goes by this order, so that the one they came in is not to be seen.
func sorted(keys, vals []uint64) []entry {
	entries := make([]entry, len(keys))
	for i, key := range keys {
		entries[i] = entry{key, vals[i]}
	}
	slices.SortFunc(entries, func(a, b entry) int { return cmp.Compare(a.key, b.key) })
	return entries
}

// seeded puts each key, and its value, where its seed sends it.
func seeded(entries []entry, seeds []uint32) api.Hash {
	h := api.Hash{Seeds: seeds, Keys: make([]uint64, len(entries)), Vals: make([]uint64, len(entries))}
	for _, e := range entries {
		at := place(h, e.key)
		h.Keys[at], h.Vals[at] = e.key, e.val
	}
	return h
}

// seedsOf is seeds that send each key to a place of its own, if they were found.
func seedsOf(keys []uint64) ([]uint32, bool) {
	groups := grouped(keys, (len(keys)+shared-1)/shared)
	seeds := make([]uint32, len(groups))
	taken := make([]bool, len(keys))
	for _, at := range greatestFirst(groups) {
		seed, found := leastSeed(groups[at], taken)
		if !found {
			return nil, false
		}
		seeds[at] = seed
		for _, key := range groups[at] {
			taken[spot(seed, key, len(taken))] = true
		}
	}
	return seeds, true
}

// grouped is the keys that share a seed, for each of so many seeds.
func grouped(keys []uint64, many int) [][]uint64 {
	groups := make([][]uint64, many)
	for _, key := range keys {
		at := spot(0, key, many)
		groups[at] = append(groups[at], key)
	}
	return groups
}

// greatestFirst is the places of groups that have keys. The greatest go first, while there is most room; one key finds the last free place, too.
func greatestFirst(groups [][]uint64) []int {
	var order []int
	for at, group := range groups {
		if len(group) > 0 {
			order = append(order, at)
		}
	}
	slices.SortStableFunc(order, func(a, b int) int { return cmp.Compare(len(groups[b]), len(groups[a])) })
	return order
}
