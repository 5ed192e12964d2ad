package hash_test

import (
	"maps"
	"math"
	"runtime"
	"slices"
	"sync"
	"testing"
	"time"
	"unsafe"

	"fretsaw/api"
	"fretsaw/hash"
)

func checkFails(t *testing.T, keys, vals []uint64, want api.Errno) {
	t.Helper()
	if h, e := hash.Build(keys, vals); e != want || !nothing(h) {
		t.Errorf("Build(%s, %s) = %s, %d; want %d alone", show(keys), show(vals), showHash(h), e, want)
	}
}

// check makes a hash, which must be of just these keys, each with its value.
func check(t *testing.T, keys, vals []uint64) api.Hash {
	t.Helper()
	h, e := hash.Build(keys, vals)
	if e != api.OK || !hash.Right(h) || len(h.Keys) != len(keys) {
		t.Fatalf("Build(%s, %s) = %s, %d", show(keys), show(vals), showHash(h), e)
	}
	there := map[uint64]bool{}
	for i, key := range keys {
		there[key] = true
		checkGet(t, h, key, vals[i], true)
	}
	for _, key := range h.Keys {
		if !there[key] {
			t.Errorf("Build(%s, ..) has the key %d", show(keys), key)
		}
	}
	for _, key := range keys {
		for _, other := range []uint64{key + 1, key - 1, ^key, key ^ 1<<32} {
			if !there[other] {
				checkGet(t, h, other, 0, false)
			}
		}
	}
	return h
}

// checkSeeds makes a hash, for which seeds must be found.
func checkSeeds(t *testing.T, keys, vals []uint64) api.Hash {
	t.Helper()
	h := check(t, keys, vals)
	if len(h.Seeds) == 0 {
		t.Errorf("Build(%s, ..): no seeds were found", show(keys))
	}
	return h
}

// P15.2: lists that are not as many; also where there are too many, and where a key stands twice.
func TestNotAsMany(t *testing.T) {
	many := make([]uint64, most+2)
	checkFails(t, []uint64{5}, nil, api.ErrArg)
	checkFails(t, nil, []uint64{5}, api.ErrArg)
	checkFails(t, []uint64{5, 9}, []uint64{1}, api.ErrArg)
	checkFails(t, []uint64{5, 9}, []uint64{1, 2, 3}, api.ErrArg)
	checkFails(t, []uint64{5, 5}, []uint64{1}, api.ErrArg)
	checkFails(t, []uint64{5, 5}, []uint64{1, 1, 1}, api.ErrArg)
	checkFails(t, many, many[:most+1], api.ErrArg)
	checkFails(t, many[:most+1], many, api.ErrArg)
	checkFails(t, many[:most+1], many[:most], api.ErrArg)
	checkFails(t, many[:most], many[:most+1], api.ErrArg)
	checkFails(t, many[:most+1], nil, api.ErrArg)
	checkFails(t, nil, many[:most+1], api.ErrArg)
}

// P15.2: as many keys as there may be, and one more; that comes ahead of a key that stands twice.
func TestLimit(t *testing.T) {
	keys, vals := drawn(dice(1), most+1)
	checkSeeds(t, keys[:most], vals[:most])
	checkFails(t, keys, vals, api.ErrLong)
	keys, vals = apart(0, 1, most+1)
	checkSeeds(t, keys[:most], vals[:most])
	checkFails(t, keys, vals, api.ErrLong)
	checkFails(t, make([]uint64, most+1), vals, api.ErrLong)
	checkFails(t, make([]uint64, 3*most), make([]uint64, 3*most), api.ErrLong)
	checkFails(t, make([]uint64, most), make([]uint64, most), api.ErrTwice)
}

// P15.2: a key that stands twice: side by side, far from one another, with the same value, too.
func TestTwice(t *testing.T) {
	checkFails(t, []uint64{5, 5}, []uint64{1, 2}, api.ErrTwice)
	checkFails(t, []uint64{5, 5}, []uint64{1, 1}, api.ErrTwice)
	checkFails(t, []uint64{0, 0}, []uint64{0, 0}, api.ErrTwice)
	checkFails(t, []uint64{5, 9, 5}, []uint64{1, 2, 3}, api.ErrTwice)
	checkFails(t, []uint64{math.MaxUint64, 1, 2, math.MaxUint64}, []uint64{1, 2, 3, 4}, api.ErrTwice)
	d := dice(2)
	for _, many := range []int{2, 3, 10, 100, most} {
		for range 20 {
			keys, vals := drawn(d, many)
			i := d.IntN(many)
			j := (i + 1 + d.IntN(many-1)) % many
			keys[i] = keys[j]
			checkFails(t, keys, vals, api.ErrTwice)
		}
	}
	keys, vals := apart(3, 1, most)
	keys[most-1] = keys[0]
	checkFails(t, keys, vals, api.ErrTwice)
}

// P15.2: no keys.
func TestNone(t *testing.T) {
	for _, l := range [][]uint64{nil, {}} {
		h, e := hash.Build(l, l)
		if e != api.OK || !nothing(h) {
			t.Errorf("Build of none: %s, %d", showHash(h), e)
		}
		checkRight(t, h, true)
		checkGet(t, h, 0, 0, false)
	}
}

// P15.2: one key: any value, 0 too, which is told as there.
func TestOne(t *testing.T) {
	for _, key := range []uint64{0, 1, 5, math.MaxUint32, math.MaxInt64, math.MaxUint64} {
		for _, val := range []uint64{0, 1, math.MaxUint64} {
			check(t, []uint64{key}, []uint64{val})
		}
	}
	check(t, []uint64{0, math.MaxUint64}, []uint64{math.MaxUint64, 0})
}

// P15.2: few keys, many times: each number of them, with keys of all sizes.
func TestFew(t *testing.T) {
	for many := 1; many <= 60; many++ {
		for n := range uint64(12) {
			keys, vals := drawn(dice(uint64(many)<<8|n), many)
			checkSeeds(t, keys, vals)
		}
		keys, vals := apart(0, 1, many)
		checkSeeds(t, keys, vals)
		checkMeantHash(t, built(keys, vals))
	}
}

// checkMeantHash holds what was made against the chapter's words, and not just against Right and Get.
func checkMeantHash(t *testing.T, h api.Hash) {
	t.Helper()
	checkRight(t, h, true)
	for i, key := range h.Keys {
		if val, is := meantGet(h, key); val != h.Vals[i] || !is {
			t.Errorf("%s: the key %d is meant to tell %d, %v", showHash(h), key, val, is)
		}
	}
}

// P15.2: many keys: drawn, side by side, and as far apart as pairs of ids.
func TestMany(t *testing.T) {
	for n, many := range []int{100, 255, 1000, 1024, 2047, 2048, 4000, most - 1, most} {
		keys, vals := drawn(dice(uint64(n)), many)
		checkMeantHash(t, checkSeeds(t, keys, vals))
		for _, by := range []uint64{1, 2, 3, 4096, 1 << 32, 1<<32 + 1, 1 << 52, 0x9E3779B97F4A7C15} {
			keys, vals = apart(uint64(n)*1000, by, many)
			checkSeeds(t, keys, vals)
		}
		keys, vals = apart(math.MaxUint64-5, 1, many) // goes round, and begins anew at 0
		checkSeeds(t, keys, vals)
		keys, vals = keys[:0], vals[:0]
		for i := range many { // a sign times 2^32, and another one
			keys, vals = append(keys, uint64(i%64)<<32|uint64(i/64)), append(vals, uint64(i)<<32|uint64(256+i))
		}
		checkSeeds(t, keys, vals)
	}
}

// P15.2: keys that all stand at one place of Seeds, so that no seed can be found: the hash is without, and may be.
func TestNoSeeds(t *testing.T) {
	for i, key := range oneSeed(80) {
		if hash.Mix(0, key) != uint64(i)*5342931457063200 {
			t.Fatalf("%d is not the key number %d", key, i)
		}
	}
	for _, many := range []int{64, 70, 80} {
		keys := oneSeed(many)
		_, vals := drawn(dice(uint64(many)), many)
		h := check(t, keys, vals)
		if len(h.Seeds) > 0 || !slices.IsSorted(h.Keys) {
			t.Errorf("Build of %d keys of one place: %s", many, showHash(h))
		}
		keys, vals = shuffled(dice(3), keys, vals)
		if other := check(t, keys, vals); !same(h, other) {
			t.Errorf("%s and, in another order, %s", showHash(h), showHash(other))
		}
	}
	var keys []uint64
	for i := range uint64(most) { // each number of Seeds that is a power of 2, up to most
		keys = append(keys, unmixed(i*most))
	}
	check(t, keys, keys)
	keys = keys[:0]
	for i := range uint64(most) { // 64 keys at each of 64 places
		keys = append(keys, unmixed(i*most+i%64))
	}
	check(t, keys, keys)
	few := oneSeed(6) // all at one place, but few enough
	checkSeeds(t, few, few)
}

// oneByOne looks for the seeds of a hash's keys without goroutines: for each place of Seeds, the one with the most keys first, the least seed that fits.
func oneByOne(h api.Hash) []uint32 {
	seeds := make([]uint32, len(h.Seeds))
	groups := make([][]uint64, len(h.Seeds))
	for _, key := range h.Keys {
		at := hash.Mix(0, key) % uint64(len(seeds))
		groups[at] = append(groups[at], key)
	}
	taken := map[uint64]bool{}
	for size := len(h.Keys); size > 0; size-- {
		for at, group := range groups {
			for len(group) == size && !fits(seeds[at], group, len(h.Keys), taken) {
				seeds[at]++
			}
		}
	}
	return seeds
}

// fits takes the places to which a seed sends all keys of a group, if none of them is taken.
func fits(seed uint32, group []uint64, many int, taken map[uint64]bool) bool {
	places := map[uint64]bool{}
	for _, key := range group {
		places[hash.Mix(seed, key)%uint64(many)] = true
	}
	for at := range places {
		if taken[at] {
			return false
		}
	}
	if len(places) < len(group) {
		return false
	}
	maps.Copy(taken, places)
	return true
}

// P15.3: each seed is the least one that fits, whoever told one first.
func TestLeastSeeds(t *testing.T) {
	for n, many := range []int{1, 2, 3, 7, 20, 100, 1000, 3000, most} {
		keys, vals := drawn(dice(uint64(n)), many)
		h := checkSeeds(t, keys, vals)
		if want := oneByOne(h); !slices.Equal(h.Seeds, want) {
			t.Errorf("%d keys: seeds %s; want %s", many, show(h.Seeds), show(want))
		}
	}
}

// P15.3: the same keys with their values in another order make the same hash.
func TestOrder(t *testing.T) {
	for n, many := range []int{1, 2, 3, 4, 5, 10, 33, 100, 500, 1000, most} {
		d := dice(uint64(n))
		keys, vals := drawn(d, many)
		want := check(t, keys, vals)
		for range 4 {
			keys, vals = shuffled(d, keys, vals)
			if got := built(keys, vals); !same(got, want) {
				t.Fatalf("%d keys in another order: %s; want %s", many, showHash(got), showHash(want))
			}
		}
		slices.Reverse(keys)
		slices.Reverse(vals)
		if got := built(keys, vals); !same(got, want) {
			t.Fatalf("%d keys the other way round: %s; want %s", many, showHash(got), showHash(want))
		}
	}
}

// P15.3: all orders of five keys.
func TestEachOrder(t *testing.T) {
	keys, vals := []uint64{3, 1, 4, 15, 9}, []uint64{2, 6, 5, 35, 8}
	want := check(t, keys, vals)
	var each func(from int)
	each = func(from int) {
		if got := built(keys, vals); !same(got, want) {
			t.Fatalf("Build(%v, %v) = %s; want %s", keys, vals, showHash(got), showHash(want))
		}
		for i := from; i < len(keys); i++ {
			for j := i + 1; j < len(keys); j++ {
				keys[i], keys[j], vals[i], vals[j] = keys[j], keys[i], vals[j], vals[i]
				each(i + 1)
				keys[i], keys[j], vals[i], vals[j] = keys[j], keys[i], vals[j], vals[i]
			}
		}
	}
	each(0)
}

// P15.2, P15.3: a value is carried along only: others make the same Seeds and Keys.
func TestValuesDoNotCount(t *testing.T) {
	keys, vals := drawn(dice(4), 300)
	h := check(t, keys, vals)
	slices.Reverse(vals)
	other := check(t, keys, vals)
	if !slices.Equal(h.Seeds, other.Seeds) || !slices.Equal(h.Keys, other.Keys) {
		t.Errorf("%s; with other values %s", showHash(h), showHash(other))
	}
}

// R1, P15.3: the same each time that it is asked, however the goroutines run.
func TestAgain(t *testing.T) {
	keys, vals := drawn(dice(5), 700)
	want := check(t, keys, vals)
	for _, at := range []int{1, 2, 3, 16} {
		before := runtime.GOMAXPROCS(at)
		for range 10 {
			if got := built(keys, vals); !same(got, want) {
				t.Errorf("asked again, %d at one time: %s; want %s", at, showHash(got), showHash(want))
			}
		}
		runtime.GOMAXPROCS(before)
	}
}

// R1: asked by several at one time.
func TestTogether(t *testing.T) {
	var wants []api.Hash
	for n := range uint64(12) {
		wants = append(wants, built(drawn(dice(n), 20*int(n))))
	}
	var all sync.WaitGroup
	for who := range uint64(12) {
		all.Go(func() {
			for round := range uint64(10) {
				n := (who + round) % 12
				if got := built(drawn(dice(n), 20*int(n))); !same(got, wants[n]) {
					t.Errorf("%d keys, asked by several: %s; want %s", 20*n, showHash(got), showHash(wants[n]))
				}
				if !hash.Right(wants[n]) {
					t.Errorf("%d keys, asked by several: not right", 20*n)
				}
			}
		})
	}
	all.Wait()
}

// checkNoneLeft waits for goroutines that have answered, and are about to end.
func checkNoneLeft(t *testing.T, before int) {
	t.Helper()
	for range 200 {
		if runtime.NumGoroutine() <= before {
			return
		}
		time.Sleep(time.Millisecond)
	}
	t.Errorf("%d goroutines, %d before", runtime.NumGoroutine(), before)
}

// P15.2: no goroutine is left behind a call, be seeds found or not, or the arguments wrong.
func TestNoneLeft(t *testing.T) {
	before := runtime.NumGoroutine()
	keys, vals := drawn(dice(6), 400)
	for range 5 {
		check(t, keys, vals)
	}
	check(t, oneSeed(64), make([]uint64, 64))
	checkFails(t, make([]uint64, 64), make([]uint64, 64), api.ErrTwice)
	checkNoneLeft(t, before)
}

// R4: whether two lists have memory in common.
func share[A, B any](a []A, b []B) bool {
	if cap(a) == 0 || cap(b) == 0 {
		return false
	}
	a, b = a[:cap(a)], b[:cap(b)]
	from, to := uintptr(unsafe.Pointer(&a[0])), uintptr(unsafe.Pointer(&b[0]))
	return from < to+uintptr(len(b))*unsafe.Sizeof(b[0]) && to < from+uintptr(len(a))*unsafe.Sizeof(a[0])
}

// R4: a hash is new memory, and its lists share none; so neither what is changed in it nor in the arguments is to be seen elsewhere.
func TestHashIsItsOwn(t *testing.T) {
	for _, keys := range [][]uint64{{5}, {5, 9}, {9, 5, 7}, oneSeed(64)} {
		vals := slices.Clone(keys)
		h := check(t, keys, vals)
		if share(h.Keys, keys) || share(h.Keys, vals) || share(h.Vals, keys) || share(h.Vals, vals) {
			t.Errorf("Build(%s, ..) shares memory with its arguments", show(keys))
		}
		if share(h.Keys, h.Vals) || share(h.Seeds, h.Keys) || share(h.Seeds, h.Vals) {
			t.Errorf("Build(%s, ..): lists share memory", show(keys))
		}
		want := copied(h)
		other := built(keys, vals)
		clear(other.Keys)
		clear(other.Vals)
		clear(other.Seeds)
		if again := built(keys, vals); !same(again, want) || !same(h, want) {
			t.Errorf("Build(%s, ..) = %s, then %s; want %s", show(keys), showHash(h), showHash(again), showHash(want))
		}
	}
	both := []uint64{4, 2, 8}
	h := check(t, both, both)
	if share(h.Keys, h.Vals) || share(h.Keys, both) || share(h.Vals, both) {
		t.Error("Build of one list as both: memory is shared")
	}
}

// Arguments are not changed, nor is what stands behind them.
func TestGivenStays(t *testing.T) {
	keys, vals := drawn(dice(7), 300)
	keys[9] = keys[8]
	for _, many := range []int{0, 1, 2, 9, 10, 299, 300} {
		k, v := slices.Clone(keys), slices.Clone(vals)
		hash.Build(k[:many], v[:many])
		hash.Build(k[:many], v[:many/2])
		if !slices.Equal(k, keys) || !slices.Equal(v, vals) {
			t.Errorf("Build of %d keys changes its arguments", many)
		}
	}
	for n := range uint64(300) {
		h := anyHash(dice(n))
		want := copied(h)
		hash.Right(h)
		hash.Get(h, 3)
		if !same(h, want) {
			t.Errorf("%s was changed from %s", showHash(h), showHash(want))
		}
	}
}

// keysOf takes a key of each byte, or, if big, of each eight.
func keysOf(s string, big bool) (keys []uint64) {
	size := 1
	if big {
		size = 8
	}
	for part := range slices.Chunk([]byte(s), size) {
		key := uint64(0)
		for _, b := range part {
			key = key<<8 | uint64(b)
		}
		keys = append(keys, key)
	}
	return keys
}

// FuzzBuild takes keys of each byte or of each eight; those of all different ones make a hash that may be, in any order the same.
func FuzzBuild(f *testing.F) {
	f.Add("\x05\x09", false, uint64(1))
	f.Add("aa", false, uint64(1))
	f.Add("abcdefghabcdefgiabcdefgj", true, uint64(2))
	f.Add("", false, uint64(0))
	f.Fuzz(func(t *testing.T, s string, big bool, order uint64) {
		keys := keysOf(s[:min(len(s), 2000)], big)
		vals := make([]uint64, len(keys))
		seen := map[uint64]bool{}
		for i, key := range keys {
			seen[key] = true
			vals[i] = key*3 + 1
		}
		if len(seen) < len(keys) {
			checkFails(t, keys, vals, api.ErrTwice)
			return
		}
		h := check(t, keys, vals)
		if other := built(shuffled(dice(order), keys, vals)); !same(h, other) {
			t.Errorf("%s and, in another order, %s", showHash(h), showHash(other))
		}
		checkFails(t, keys, append(vals, 1), api.ErrArg)
	})
}
