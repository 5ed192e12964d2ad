package hash_test

import (
	"math"
	"math/rand/v2"
	"testing"

	"fretsaw/api"
	"fretsaw/hash"
)

func checkMix(t *testing.T, seed uint32, key, want uint64) {
	t.Helper()
	if got := hash.Mix(seed, key); got != want {
		t.Errorf("Mix(%d, %#x) = %#x; want %#x", seed, key, got, want)
	}
	if meant := meantMix(seed, key); meant != want {
		t.Errorf("Mix(%d, %#x): meant is %#x; want %#x", seed, key, meant, want)
	}
}

func checkRight(t *testing.T, h api.Hash, want bool) {
	t.Helper()
	if got := hash.Right(h); got != want {
		t.Errorf("Right(%s) = %v; want %v", showHash(h), got, want)
	}
	if meant := meantRight(h); meant != want {
		t.Errorf("Right(%s): meant is %v; want %v", showHash(h), meant, want)
	}
}

func checkGet(t *testing.T, h api.Hash, key, want uint64, there bool) {
	t.Helper()
	if got, is := hash.Get(h, key); got != want || is != there {
		t.Errorf("Get(%s, %d) = %d, %v; want %d, %v", showHash(h), key, got, is, want, there)
	}
}

// checkMeantGet holds Get against the chapter's words.
func checkMeantGet(t *testing.T, h api.Hash, key uint64) {
	t.Helper()
	want, there := meantGet(h, key)
	checkGet(t, h, key, want, there)
}

// P15.1, P15.2: the chapter's examples.
func TestExamples(t *testing.T) {
	checkMix(t, 0, 0, 0xE220A8397B1DCDAF)
	h, e := hash.Build([]uint64{5, 9}, []uint64{1, 2})
	if e != api.OK {
		t.Fatal(e)
	}
	checkRight(t, h, true)
	checkGet(t, h, 5, 1, true)
	checkGet(t, h, 9, 2, true)
	checkGet(t, h, 6, 0, false)
	checkFails(t, []uint64{5, 5}, []uint64{1, 2}, api.ErrTwice)
	checkFails(t, []uint64{5}, nil, api.ErrArg)
}

// P15.1: numbers that are known of these steps elsewhere: with a key they begin at it, and each further seed is one step more.
func TestMixKnown(t *testing.T) {
	for seed, want := range []uint64{0xE220A8397B1DCDAF, 0x6E789E6AA1B965F4, 0x06C45D188009454F, 0xF88BB8A8724C81EC, 0x1B39896A51A8749B} {
		checkMix(t, uint32(seed), 0, want)
	}
	for seed, want := range []uint64{6457827717110365317, 3203168211198807973, 9817491932198370423, 4593380528125082431, 16408922859458223821} {
		checkMix(t, uint32(seed), 1234567, want)
	}
}

// P15.1: Mix at the least and the greatest seeds and keys, at each bit alone, and at many drawn.
func TestMix(t *testing.T) {
	seeds := []uint32{0, 1, 2, 1 << 30, math.MaxInt32, math.MaxInt32 + 1, math.MaxUint32 - 1, math.MaxUint32}
	keys := []uint64{0, 1, 2, math.MaxUint32, math.MaxUint32 + 1, math.MaxInt64, math.MaxInt64 + 1, math.MaxUint64 - 1, math.MaxUint64}
	for bit := range 64 {
		keys = append(keys, 1<<bit, ^uint64(0)>>bit)
	}
	for bit := range 32 {
		seeds = append(seeds, 1<<bit, ^uint32(0)>>bit)
	}
	for _, seed := range seeds {
		for _, key := range keys {
			checkMix(t, seed, key, meantMix(seed, key))
		}
	}
	d := dice(1)
	for range 20000 {
		seed, key := d.Uint32(), d.Uint64()
		checkMix(t, seed, key, meantMix(seed, key))
	}
}

// P15.1: Right at hashes without Seeds: none at all, and Keys that rise, that fall, and that stand twice.
func TestRightWithoutSeeds(t *testing.T) {
	hashOf := func(keys ...uint64) api.Hash {
		return api.Hash{Keys: keys, Vals: make([]uint64, len(keys))}
	}
	checkRight(t, api.Hash{}, true)
	checkRight(t, api.Hash{Seeds: []uint32{}, Keys: []uint64{}, Vals: []uint64{}}, true)
	checkRight(t, hashOf(0), true)
	checkRight(t, hashOf(math.MaxUint64), true)
	checkRight(t, hashOf(0, 1, math.MaxUint64), true)
	checkRight(t, hashOf(5, 9), true)
	checkRight(t, hashOf(9, 5), false)
	checkRight(t, hashOf(5, 5), false)
	checkRight(t, hashOf(0, 0), false)
	checkRight(t, hashOf(1, 2, 3, 3), false)
	checkRight(t, hashOf(1, 1, 2, 3), false)
	checkRight(t, hashOf(1, 2, 4, 3), false)
	checkRight(t, hashOf(2, 1, 3, 4), false)
	checkRight(t, hashOf(1, 2, 3, math.MaxUint64, 4), false)
	keys, _ := apart(7, 3, most)
	for i := 1; i < most; i += 97 {
		keys[i]++
		checkRight(t, hashOf(keys...), true)
		keys[i] = keys[i-1]
		checkRight(t, hashOf(keys...), false)
		keys[i] += 3
	}
}

// P15.1: Right at as many Keys and Seeds as there may be, and at one more.
func TestRightLimits(t *testing.T) {
	keys, vals := apart(0, 5, most+1)
	checkRight(t, api.Hash{Keys: keys[:most], Vals: vals[:most]}, true)
	checkRight(t, api.Hash{Keys: keys, Vals: vals}, false)
	one := api.Hash{Seeds: make([]uint32, most+1), Keys: keys[:1], Vals: vals[:1]}
	checkRight(t, one, false)
	one.Seeds = one.Seeds[:most]
	checkRight(t, one, true)
	d := dice(2)
	for _, seeds := range []int{1, 100, most - 1, most} {
		checkRight(t, placed(d, 9, seeds), true)
	}
	full := placed(d, most, most)
	checkRight(t, full, true)
	full.Keys, full.Vals = append(full.Keys, 1), append(full.Vals, 1)
	checkRight(t, full, false)
	over := placed(d, most+1, 16)
	for at, key := range over.Keys {
		if meantPlace(over, key) != at {
			t.Fatal("a key that does not stand at its place")
		}
	}
	checkRight(t, over, false)
	checkRight(t, placed(d, 9, most+1), false)
}

// P15.1: Right at Vals that are not as many as Keys, and at Seeds without Keys.
func TestRightCounts(t *testing.T) {
	for _, seeds := range []int{0, 1, 3} {
		h := api.Hash{Keys: []uint64{3, 4, 9}, Vals: []uint64{1, 2, 3}}
		if seeds > 0 {
			h = placed(dice(3), 3, seeds)
		}
		checkRight(t, h, true)
		for size := range 6 {
			other := h
			other.Vals = make([]uint64, size)
			checkRight(t, other, size == 3)
		}
		other := h
		other.Keys = h.Keys[:2]
		checkRight(t, other, false)
	}
	checkRight(t, api.Hash{Seeds: []uint32{0}}, false)
	checkRight(t, api.Hash{Seeds: []uint32{0, 1, 2}}, false)
	checkRight(t, api.Hash{Seeds: make([]uint32, most)}, false)
	checkRight(t, api.Hash{Vals: []uint64{0}}, false)
	checkRight(t, api.Hash{Seeds: []uint32{0}, Vals: []uint64{0}}, false)
}

// P15.1: Right at a key, with Seeds, that does not stand at its place: at any of its places, and where two have changed theirs.
func TestRightPlaces(t *testing.T) {
	d := dice(4)
	for _, many := range []int{2, 3, 8, 50} {
		h := placed(d, many, 4)
		checkRight(t, h, true)
		for i := range many {
			other := copied(h)
			j := (i + 1 + d.IntN(many-1)) % many
			other.Keys[i], other.Keys[j] = other.Keys[j], other.Keys[i]
			checkRight(t, other, false)
			other = copied(h)
			for meantPlace(other, other.Keys[i]) == i {
				other.Keys[i]++
			}
			checkRight(t, other, false)
			other = copied(h)
			other.Keys[i] = other.Keys[j]
			checkRight(t, other, false)
		}
	}
}

// P15.1: Keys that rise, with Seeds, need stand at their places, too; and Keys that stand at these need not rise.
func TestRightSeedsCount(t *testing.T) {
	h := api.Hash{Seeds: []uint32{0}, Keys: []uint64{1, 2, 3, 4, 5, 6, 7, 8}, Vals: make([]uint64, 8)}
	checkRight(t, h, false)
	h = placed(dice(5), 8, 2)
	checkRight(t, h, true)
	h.Seeds = nil
	checkRight(t, h, false)
}

// P15.1: hashes that may be, and such as may not, drawn by the dice: Right and Get, at each key that may be there, are what the words say.
func TestAnyHash(t *testing.T) {
	counts := map[[2]bool]int{}
	for n := range uint64(6000) {
		h := anyHash(dice(n))
		may := meantRight(h)
		checkRight(t, h, may)
		counts[[2]bool{len(h.Seeds) > 0, may}]++
		for key := range uint64(9) {
			checkMeantGet(t, h, key)
		}
		checkMeantGet(t, h, math.MaxUint64)
	}
	for _, seeds := range []bool{false, true} {
		for _, may := range []bool{false, true} {
			if n := counts[[2]bool{seeds, may}]; n < 300 {
				t.Errorf("only %d hashes, with Seeds: %v, that may be: %v", n, seeds, may)
			}
		}
	}
}

// P15.1: Get where there are no Keys, or Vals that are not as many: never a value.
func TestGetNothing(t *testing.T) {
	for _, h := range []api.Hash{
		{},
		{Seeds: []uint32{1, 2}},
		{Vals: []uint64{0, 7}},
		{Seeds: []uint32{1}, Vals: []uint64{7}},
		{Keys: []uint64{5}},
		{Keys: []uint64{5, 9}, Vals: []uint64{1}},
		{Keys: []uint64{0, 5}, Vals: []uint64{1, 2, 3}},
		{Seeds: []uint32{3}, Keys: []uint64{5}},
		{Seeds: []uint32{3}, Keys: []uint64{5}, Vals: []uint64{1, 2}},
		{Seeds: make([]uint32, 5), Keys: []uint64{0, 0, 0, 0}, Vals: []uint64{1, 2, 3}},
	} {
		for _, key := range []uint64{0, 1, 5, 9, math.MaxUint64} {
			checkGet(t, h, key, 0, false)
		}
	}
}

// P15.1: Get without Seeds: at each key and between them, below the first and above the last.
func TestGetByHalves(t *testing.T) {
	for many := range 40 {
		keys, vals := apart(10, 10, many)
		h := api.Hash{Keys: keys, Vals: vals}
		for i, key := range keys {
			checkGet(t, h, key, vals[i], true)
			checkGet(t, h, key-1, 0, false)
			checkGet(t, h, key+1, 0, false)
		}
		checkGet(t, h, 0, 0, false)
		checkGet(t, h, math.MaxUint64, 0, false)
	}
	checkGet(t, api.Hash{Keys: []uint64{0, math.MaxUint64}, Vals: []uint64{3, 4}}, 0, 3, true)
	checkGet(t, api.Hash{Keys: []uint64{0, math.MaxUint64}, Vals: []uint64{3, 4}}, math.MaxUint64, 4, true)
}

// P15.1: Get where Keys do not rise: the halves tell which of them are found. The first row is gone through by hand.
func TestGetKeysThatFall(t *testing.T) {
	fall := api.Hash{Keys: []uint64{9, 5, 1}, Vals: []uint64{7, 8, 6}}
	checkGet(t, fall, 5, 0, false) // 5 is not below 5, then 9 is not: place 0
	checkGet(t, fall, 9, 0, false) // 5 is below 9, then 1 is: place 3
	checkGet(t, fall, 1, 0, false)
	twice := api.Hash{Keys: []uint64{4, 4, 4, 4}, Vals: []uint64{1, 2, 3, 4}}
	checkGet(t, twice, 4, 1, true)
	checkGet(t, twice, 5, 0, false)
	first := api.Hash{Keys: []uint64{8, 3, 5, 4}, Vals: []uint64{1, 2, 3, 4}}
	checkGet(t, first, 8, 0, false)
	checkGet(t, first, 5, 3, true) // 5 is not below 5, then 3 is below 5: place 2
	d := dice(6)
	for range 3000 {
		keys, vals := []uint64{}, []uint64{}
		for range 1 + d.IntN(9) {
			keys, vals = append(keys, d.Uint64N(12)), append(vals, d.Uint64())
		}
		for key := range uint64(13) {
			checkMeantGet(t, api.Hash{Keys: keys, Vals: vals}, key)
		}
	}
}

// P15.1: Get of more than MaxKeys Keys, or Seeds: such a hash may not be, but a key that stands at its place is found.
func TestGetBeyond(t *testing.T) {
	keys, vals := apart(3, 2, most+100)
	h := api.Hash{Keys: keys, Vals: vals}
	checkGet(t, h, keys[0], vals[0], true)
	checkGet(t, h, keys[most+99], vals[most+99], true)
	checkGet(t, h, keys[most], vals[most], true)
	checkGet(t, h, 4, 0, false)
	d := dice(7)
	for _, h := range []api.Hash{placed(d, most+1, 10), placed(d, 10, most+1)} {
		for i := 0; i < len(h.Keys); i += 7 {
			checkGet(t, h, h.Keys[i], h.Vals[i], true)
		}
		checkMeantGet(t, h, 12)
	}
}

// P15.1: Get with Seeds: a key that stands elsewhere than at its place is not found, and the seed at its place alone counts.
func TestGetBySeeds(t *testing.T) {
	d := dice(8)
	for _, sizes := range [][2]int{{1, 1}, {1, 5}, {2, 1}, {7, 3}, {40, 9}, {500, 100}} {
		h := placed(d, sizes[0], sizes[1])
		for i, key := range h.Keys {
			checkGet(t, h, key, h.Vals[i], true)
			checkMeantGet(t, h, key+1)
		}
		other := copied(h)
		turned(d, other.Keys)
		for _, key := range h.Keys {
			checkMeantGet(t, other, key)
		}
		other = copied(h)
		for i := range other.Seeds {
			other.Seeds[i] = d.Uint32()
		}
		for _, key := range h.Keys {
			checkMeantGet(t, other, key)
		}
	}
}

// turned puts keys into another order.
func turned(d *rand.Rand, keys []uint64) {
	d.Shuffle(len(keys), func(i, j int) { keys[i], keys[j] = keys[j], keys[i] })
}

// FuzzGet takes keys of each byte or of each eight, seeds of each byte, and asks for all that is there, and more.
func FuzzGet(f *testing.F) {
	f.Add("\x05\x09", "", false, 2)
	f.Add("\x05\x09", "\x01", false, 2)
	f.Add("abcdefghabcdefgi", "\x01\x02", true, 2)
	f.Add("", "\x01", false, 0)
	f.Fuzz(func(t *testing.T, s, seeds string, big bool, vals int) {
		h := api.Hash{Keys: keysOf(s, big)}
		for i := range min(max(vals, 0), 300) {
			h.Vals = append(h.Vals, uint64(i+1))
		}
		for _, b := range []byte(seeds) {
			h.Seeds = append(h.Seeds, uint32(b)*0x01010101)
		}
		checkRight(t, h, meantRight(h))
		for _, key := range h.Keys {
			checkMeantGet(t, h, key)
			checkMeantGet(t, h, key+1)
		}
		checkMeantGet(t, h, 0)
	})
}
