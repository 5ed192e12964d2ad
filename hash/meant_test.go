package hash_test

import (
	"fmt"
	"math/big"
	"math/rand/v2"
	"slices"

	"fretsaw/api"
	"fretsaw/hash"
)

// This file holds the chapter's words once more, in other ways than the program has them, and makes the keys and the hashes that are tried.

const most = 4096 // MaxKeys

// meantMix is worked out by numbers that never go round: what goes beyond 64 bits is taken off at the end.
func meantMix(seed uint32, key uint64) uint64 {
	room := new(big.Int).Lsh(big.NewInt(1), 64)
	times := func(x *big.Int, digits string) *big.Int {
		by, _ := new(big.Int).SetString(digits, 16)
		return by.Mod(by.Mul(by, x), room)
	}
	turned := func(x *big.Int, right uint) *big.Int {
		return x.Xor(x, new(big.Int).Rsh(x, right))
	}
	x := times(big.NewInt(int64(seed)+1), "9E3779B97F4A7C15")
	x.Mod(x.Add(x, new(big.Int).SetUint64(key)), room)
	x = times(turned(x, 30), "BF58476D1CE4E5B9")
	x = times(turned(x, 27), "94D049BB133111EB")
	return turned(x, 31).Uint64()
}

// halves is the first place, among those from one to another, at which no key below this one stands, as halves tell.
func halves(keys []uint64, from, to int, key uint64) int {
	middle := (from + to) / 2
	switch {
	case from == to:
		return from
	case keys[middle] < key:
		return halves(keys, middle+1, to, key)
	}
	return halves(keys, from, middle, key)
}

// meantPlace is a key's place in a hash that has Keys.
func meantPlace(h api.Hash, key uint64) int {
	if len(h.Seeds) == 0 {
		return halves(h.Keys, 0, len(h.Keys), key)
	}
	mod := func(seed uint32, by int) int {
		x := new(big.Int).SetUint64(meantMix(seed, key))
		return int(x.Mod(x, big.NewInt(int64(by))).Int64())
	}
	return mod(h.Seeds[mod(0, len(h.Seeds))], len(h.Keys))
}

// meantRight takes the chapter's conditions one by one.
func meantRight(h api.Hash) bool {
	may := len(h.Keys) <= most && len(h.Vals) == len(h.Keys) && len(h.Seeds) <= most
	may = may && (len(h.Keys) > 0 || len(h.Seeds) == 0)
	for i, key := range h.Keys {
		may = may && meantPlace(h, key) == i
		may = may && (len(h.Seeds) > 0 || i == 0 || key > h.Keys[i-1])
	}
	return may
}

// meantGet tells of any hash.
func meantGet(h api.Hash, key uint64) (uint64, bool) {
	if len(h.Keys) > 0 && len(h.Vals) == len(h.Keys) {
		if at := meantPlace(h, key); at < len(h.Keys) && h.Keys[at] == key {
			return h.Vals[at], true
		}
	}
	return 0, false
}

// unmixed is the key of which Mix(0, key) is x: each step is undone, the last one first.
func unmixed(x uint64) uint64 {
	turned := func(x uint64, right int) uint64 {
		y := x
		for range 64/right + 1 {
			y = x ^ y>>right
		}
		return y
	}
	under := func(by uint64) uint64 { // the number that, times by, is 1
		y := by
		for range 6 {
			y *= 2 - by*y
		}
		return y
	}
	x = turned(x, 31) * under(0x94D049BB133111EB)
	x = turned(x, 27) * under(0xBF58476D1CE4E5B9)
	return turned(x, 30) - 0x9E3779B97F4A7C15
}

// oneSeed is keys of which Mix(0, key) may be divided by all numbers up to 40: they stand at one place of Seeds, if there are at most 40 of these.
func oneSeed(many int) (keys []uint64) {
	for i := range many {
		keys = append(keys, unmixed(uint64(i)*5342931457063200))
	}
	return keys
}

// dice throws numbers, the same ones for the same n; they are not made by the steps of Mix.
func dice(n uint64) *rand.Rand {
	return rand.New(rand.NewPCG(n, 15))
}

// drawn is different keys, each with a value.
func drawn(d *rand.Rand, many int) (keys, vals []uint64) {
	seen := map[uint64]bool{}
	for len(keys) < many {
		if key := d.Uint64() >> d.IntN(50); !seen[key] {
			seen[key] = true
			keys, vals = append(keys, key), append(vals, d.Uint64()>>d.IntN(64))
		}
	}
	return keys, vals
}

// apart is keys that stand side by side, or by so much apart.
func apart(from, by uint64, many int) (keys, vals []uint64) {
	for i := range uint64(many) {
		keys, vals = append(keys, from+i*by), append(vals, i+1)
	}
	return keys, vals
}

// shuffled is the same keys and values in another order.
func shuffled(d *rand.Rand, keys, vals []uint64) ([]uint64, []uint64) {
	keys, vals = slices.Clone(keys), slices.Clone(vals)
	d.Shuffle(len(keys), func(i, j int) {
		keys[i], keys[j] = keys[j], keys[i]
		vals[i], vals[j] = vals[j], vals[i]
	})
	return keys, vals
}

// anyHash is a small one, which may be or not: of few keys, so that some stand twice, and some at their places.
func anyHash(d *rand.Rand) api.Hash {
	var h api.Hash
	for range d.IntN(6) {
		h.Keys, h.Vals = append(h.Keys, d.Uint64N(8)), append(h.Vals, d.Uint64N(100))
	}
	switch d.IntN(8) {
	case 0:
		h.Vals = append(h.Vals, 7)
	case 1:
		h.Vals = h.Vals[:len(h.Vals)/2]
	}
	if d.IntN(2) > 0 {
		for range d.IntN(4) {
			h.Seeds = append(h.Seeds, d.Uint32N(4))
		}
	} else if d.IntN(2) > 0 {
		slices.Sort(h.Keys)
	}
	if len(h.Seeds) > 0 && d.IntN(2) > 0 {
		moved(h)
	}
	return h
}

// moved puts each key of a hash with Seeds where it belongs, if that one's own place is behind it, so that more of them may be.
func moved(h api.Hash) {
	for i := range h.Keys {
		for range h.Keys {
			at := meantPlace(h, h.Keys[i])
			h.Keys[i], h.Keys[at] = h.Keys[at], h.Keys[i]
		}
	}
}

// placed is a hash with Seeds of which each key stands at its place, the seeds being tried by the dice: so the program makes none of it.
func placed(d *rand.Rand, many, seeds int) api.Hash {
	for {
		h := api.Hash{Keys: make([]uint64, many), Vals: make([]uint64, many)}
		for range seeds {
			h.Seeds = append(h.Seeds, d.Uint32())
		}
		taken := make([]bool, many)
		for range 50 * many {
			key := d.Uint64()
			if at := meantPlace(h, key); !taken[at] {
				h.Keys[at], h.Vals[at], taken[at] = key, d.Uint64(), true
			}
		}
		if !slices.Contains(taken, false) {
			return h
		}
	}
}

// copied is a hash in memory of its own.
func copied(h api.Hash) api.Hash {
	return api.Hash{Seeds: slices.Clone(h.Seeds), Keys: slices.Clone(h.Keys), Vals: slices.Clone(h.Vals)}
}

// same tells whether two hashes are.
func same(a, b api.Hash) bool {
	return slices.Equal(a.Seeds, b.Seeds) && slices.Equal(a.Keys, b.Keys) && slices.Equal(a.Vals, b.Vals)
}

// nothing tells whether a hash is the zero value.
func nothing(h api.Hash) bool {
	return len(h.Seeds) == 0 && len(h.Keys) == 0 && len(h.Vals) == 0
}

// show writes a list, but not all of a long one.
func show[E any](l []E) string {
	if len(l) > 12 {
		return fmt.Sprint(l[:12]) + fmt.Sprint(".. of ", len(l))
	}
	return fmt.Sprint(l)
}

func showHash(h api.Hash) string {
	return "{Seeds " + show(h.Seeds) + " Keys " + show(h.Keys) + " Vals " + show(h.Vals) + "}"
}

// built makes a hash, whatever it is told.
func built(keys, vals []uint64) api.Hash {
	h, _ := hash.Build(keys, vals)
	return h
}
