package vm_test

import (
	"math"
	"math/rand/v2"
	"slices"
	"testing"
	"time"

	"fretsaw/api"
	"fretsaw/hash"
	"fretsaw/heap"
	"fretsaw/vm"
)

// checkMerges holds what is merged against what is asked, and against the chapter's words, with the pairs found in both ways.
func checkMerges(t *testing.T, h api.Hash, signs int, l []int, want ...int) {
	t.Helper()
	if m, ok := meantMerge(h, signs, l); !ok || !slices.Equal(m, want) {
		t.Errorf("Merge(%s, %d, %s): meant is %s, %v; want %s", show(h), signs, show(l), show(m), ok, show(want))
	}
	for _, h := range []api.Hash{h, halves(h)} {
		if got, ok := vm.Merge(h, signs, l); !ok || !slices.Equal(got, want) {
			t.Errorf("Merge(%s, %d, %s) = %s, %v; want %s", show(h), signs, show(l), show(got), ok, show(want))
		}
	}
}

func checkNone(t *testing.T, h api.Hash, signs int, l []int) {
	t.Helper()
	if got, ok := vm.Merge(h, signs, l); ok || len(got) > 0 {
		t.Errorf("Merge(%s, %d, %s of %d) = %s, %v; want none, and false", show(h), signs, show(l), len(l), show(got), ok)
	}
}

// P22.1: what may not be merged.
func TestMergeArguments(t *testing.T) {
	pairs := pairsOf(0, 0, 0, 0)
	for _, h := range []api.Hash{{}, pairs} {
		for _, signs := range []int{-1, -2, math.MinInt, mostSigns + 1, mostSigns + 2, 1 << 32, math.MaxInt} {
			for _, l := range [][]int{nil, {0}, {0, 0}, {-1}} {
				checkNone(t, h, signs, l)
			}
		}
		for _, signs := range []int{0, 1, 2, 3, 300, mostSigns - 1, mostSigns} {
			checkMerges(t, h, signs, nil)
			checkMerges(t, h, signs, []int{})
			for _, n := range []int{-1, signs, signs + 1, math.MinInt, math.MaxInt, 1 << 32, -1 << 32} {
				checkNone(t, h, signs, []int{n})
				if signs > 0 {
					checkNone(t, h, signs, []int{n, 0, 0})
					checkNone(t, h, signs, []int{0, n, 0})
					checkNone(t, h, signs, []int{0, 0, n})
				}
			}
			if signs > 2 {
				checkMerges(t, h, signs, []int{signs - 1, 0, 1, 2, signs - 1}, signs-1, 0, 1, 2, signs-1)
			}
		}
	}
	checkNone(t, api.Hash{}, 0, []int{0})
}

// P22.1: how long a list may be.
func TestMergeLong(t *testing.T) {
	l := make([]int, mostRoom+1)
	for _, h := range []api.Hash{{}, pairsOf(1, 1, 0, 0)} {
		if got, ok := vm.Merge(h, 1, l[1:]); !ok || !slices.Equal(got, l[1:]) {
			t.Error("of the longest list", len(got), ok)
		}
		checkNone(t, h, 1, l)
	}
	h := pairsOf(0, 0, 0, 0)
	checkNone(t, h, 1, l)
	if got, ok := vm.Merge(h, 1, l[1:]); !ok || !slices.Equal(got, []int{0}) {
		t.Error("of the longest list", show(got), ok)
	}
}

// P22.1: the least rank, of these the first.
func TestMergeOrder(t *testing.T) {
	one := pairsOf(0, 0, 3, 1)
	checkMerges(t, one, 2, []int{0}, 0)
	checkMerges(t, one, 2, []int{0, 0}, 1)
	checkMerges(t, one, 2, []int{0, 0, 0}, 1, 0) // they overlap
	checkMerges(t, one, 2, []int{0, 0, 0, 0}, 1, 1)
	checkMerges(t, one, 2, []int{1, 0, 0, 0, 1, 0}, 1, 1, 0, 1, 0)
	equal := pairsOf(1, 2, 5, 3, 2, 1, 5, 4)
	checkMerges(t, equal, 5, []int{1, 2, 1, 2, 1}, 3, 3, 1)
	checkMerges(t, equal, 5, []int{2, 1, 2, 1, 2}, 4, 4, 2)
	checkMerges(t, equal, 5, []int{0, 2, 1, 2}, 0, 4, 2)
	later := pairsOf(1, 2, 6, 3, 2, 1, 5, 4)
	checkMerges(t, later, 5, []int{1, 2, 1, 2, 1}, 1, 4, 4)
	checkMerges(t, pairsOf(0, 1, 5, 2, 2, 0, 1, 3), 4, []int{0, 1, 0, 1}, 3, 1)    // what is merged is merged on, ahead of the next
	checkMerges(t, pairsOf(0, 1, 5, 2, 2, 0, 9, 3), 4, []int{0, 1, 0, 1}, 2, 2)    // or behind it
	checkMerges(t, pairsOf(0, 1, 5, 2, 2, 0, 5, 3), 4, []int{0, 1, 0, 1}, 3, 1)    // or the first one goes on
	checkMerges(t, pairsOf(0, 1, 5, 2, 1, 2, 1, 3), 4, []int{1, 0, 1, 0, 1}, 3, 2) // and with the one ahead
	checkMerges(t, pairsOf(0, 1, 0, 0), 2, []int{0, 1, 1, 1, 0, 1}, 0, 0)          // a sign may become itself
	checkMerges(t, pairsOf(0, 1, 0, 1), 2, []int{0, 0, 0, 1, 0, 1, 0}, 1, 1, 0)    // or the other one
	checkMerges(t, pairsOf(0, 0, 0, 0), 1, []int{0, 0, 0, 0, 0, 0}, 0)             // or both
	checkMerges(t, pairsOf(0, 1, 7, 1, 1, 0, 7, 0), 2, []int{0, 1, 0, 1, 0, 1, 1}, 1, 1)
	far := pairsOf(0, 1, 1<<32-1, 2, 1, 2, 1<<31, 3, 2, 3, 0, 4) // ranks have no sign
	checkMerges(t, far, 5, []int{0, 1, 2, 3}, 2, 4)
	checkMerges(t, far, 5, []int{0, 1, 2}, 0, 3)
	checkMerges(t, far, 5, []int{0, 1, 0, 1}, 2, 2)
	checkMerges(t, far, 5, []int{1, 2, 3}, 1, 4)
}

// P22.1: signs that become what is none; a pair that is never merged may become anything.
func TestMergeFaults(t *testing.T) {
	for _, signs := range []int{1, 2, 3, 256, mostSigns - 1, mostSigns} {
		for _, becomes := range []int{signs - 1, signs, signs + 1, mostSigns, 1 << 31, 1<<32 - 1} {
			h := pairsOf(0, 0, 7, uint64(becomes))
			checkMerges(t, h, signs, []int{0}, 0)
			if becomes < signs && becomes > 0 {
				checkMerges(t, h, signs, []int{0, 0, 0}, becomes, 0)
			} else if becomes >= signs {
				checkNone(t, h, signs, []int{0, 0})
				checkNone(t, h, signs, []int{0, 0, 0, 0})
			}
			if signs > 2 && becomes >= signs {
				checkMerges(t, h, signs, []int{0, 1, 0, 2, 0}, 0, 1, 0, 2, 0)
				h = pairsOf(0, 0, 7, uint64(becomes), 1, 0, 6, 2)
				checkMerges(t, h, signs, []int{0, 1, 0, 0}, 0, 2, 0)          // the other pair is taken first
				checkNone(t, h, signs, []int{0, 1, 0, 0, 0})                  // and there is one left
				h = pairsOf(0, 1, 1, 2, 2, 2, 5, 0, 0, 0, 9, uint64(becomes)) // behind two others
				checkNone(t, h, signs, []int{0, 1, 0, 1, 0})
				checkMerges(t, h, signs, []int{0, 1, 0, 1}, 0)
			}
		}
	}
}

// P22.1: a hash that may not be tells what it tells.
func TestMergeOddHashes(t *testing.T) {
	l := []int{0, 1, 0, 1}
	keys, vals := []uint64{1}, []uint64{2}
	for _, h := range []api.Hash{{Keys: keys}, {Vals: vals}, {Keys: keys, Vals: []uint64{2, 2}}, {Seeds: []uint32{1}}, {Keys: []uint64{1, 0}, Vals: []uint64{2, 2}}} {
		if got, ok := vm.Merge(h, 3, l); !ok || !slices.Equal(got, l) {
			t.Errorf("Merge(%s) = %s, %v", show(h), show(got), ok)
		}
	}
	var h api.Hash
	for n := range uint64(api.MaxKeys + 9) {
		h.Keys, h.Vals = append(h.Keys, n), append(h.Vals, 2)
	}
	checkMerges(t, h, 3, l, 2, 2)
}

// P22.1: all short lists of three signs.
func TestMergeShortLists(t *testing.T) {
	faults, less := 0, 0
	for n := range uint64(60) {
		d := dice(1000 + n)
		h := drawnPairs(d, 3)
		for k := range 3*3*3*3*3*3 + 3*3*3*3*3 {
			l := make([]int, 6-k/729)
			for at, rest := 0, k%729; at < len(l); at++ {
				l[at] = rest % 3
				rest /= 3
			}
			signs := oneOf(d, 3, 3, 3, 4, 70)
			want, ok := meantMerge(h, signs, l)
			if got, is := vm.Merge(h, signs, l); is != ok || !slices.Equal(got, want) {
				t.Errorf("Merge(%s, %d, %v) = %v, %v; want %v, %v", show(h), signs, l, got, is, want, ok)
			}
			if !ok {
				faults++
			} else if len(want) < len(l) {
				less++
			}
		}
	}
	if less < 10000 {
		t.Error("these show too little:", less, faults)
	}
}

// drawnSigns is a list of numbers below signs.
func drawnSigns(d *rand.Rand, signs, most int) (l []int) {
	for range d.IntN(most) {
		l = append(l, d.IntN(signs))
	}
	return l
}

// P22.1: drawn ones, of which some have a sign that becomes none.
func TestMergeDrawn(t *testing.T) {
	faults, less := 0, 0
	for n := range uint64(6000) {
		d := dice(2000 + n)
		most := oneOf(d, 3, 4, 8)
		h := drawnPairs(d, most)
		l := drawnSigns(d, most, 40)
		signs := oneOf(d, most, most, most, most-1, 70)
		want, ok := meantMerge(h, signs, l)
		if slices.ContainsFunc(l, func(n int) bool { return n >= signs }) {
			want, ok = nil, false
		}
		if got, is := vm.Merge(h, signs, l); is != ok || !slices.Equal(got, want) {
			t.Errorf("Merge(%s, %d, %v) = %v, %v; want %v, %v", show(h), signs, l, got, is, want, ok)
		}
		if !ok {
			faults++
		} else if len(want) < len(l)-2 {
			less++
		}
	}
	if faults < 300 || less < 2000 {
		t.Error("these show too little:", faults, less)
	}
}

// drawnMerges is merges of a few bytes and of earlier ones, with their pairs, ranked by their numbers.
func drawnMerges(d *rand.Rand, most int) ([]api.Merge, api.Hash) {
	var l []api.Merge
	var keys, vals []uint64
	texts := map[string]bool{}
	var text func(id int) string
	text = func(id int) string {
		if id < 256 {
			return string([]byte{byte(id)})
		}
		return text(l[id-256].Left) + text(l[id-256].Right)
	}
	id := func() int {
		if len(l) > 0 && d.IntN(3) == 0 {
			return 256 + d.IntN(len(l))
		}
		return 'a' + d.IntN(3)
	}
	for range most {
		m := api.Merge{Left: id(), Right: id()}
		s := text(m.Left) + text(m.Right)
		if texts[s] || len(s) > api.MaxToken {
			continue
		}
		texts[s] = true
		keys = append(keys, uint64(m.Left)<<32|uint64(m.Right))
		vals = append(vals, uint64(len(l))<<32|uint64(256+len(l)))
		l = append(l, m)
	}
	h, _ := hash.Build(keys, vals)
	return l, h
}

// P22.1: merges by rank are those of layer 14, of long lists too.
func TestMergeAsHeap(t *testing.T) {
	less := 0
	for n := range uint64(40) {
		d := dice(3000 + n)
		merges, h := drawnMerges(d, oneOf(d, 3, 20, 300, 1000))
		e, bad := heap.New(merges, nil)
		if bad != api.OK {
			t.Fatal("heap.New tells", bad)
		}
		many := oneOf(d, 10, 1000, 20000)
		if n == 0 {
			many = mostRoom
		}
		b, ids := make([]byte, many), make([]int, many)
		for at := range b {
			b[at] = 'a' + byte(d.IntN(3))
			ids[at] = int(b[at])
		}
		want, _ := e.Tokens(string(b))
		if got, ok := vm.Merge(h, 256+len(merges), ids); !ok || !slices.Equal(got, want) {
			t.Errorf("of %d bytes and %d merges: %s of %d, %v; want %s of %d", many, len(merges), show(got), len(got), ok, show(want), len(want))
		}
		if many > 10 && len(want) < many/2 {
			less++
		}
	}
	if less < 10 {
		t.Error("these show too little:", less)
	}
}

// P1, P22.1: long lists end soon, also where each merge makes the next one.
func TestMergeEndsSoon(t *testing.T) {
	since := time.Now()
	zeros := make([]int, mostRoom)
	tower := []uint64{}
	for n := range uint64(18) {
		tower = append(tower, n, n, n, n+1)
	}
	first, last := slices.Clone(zeros), slices.Clone(zeros)
	first[0], last[mostRoom-1] = 1, 1
	alternate := slices.Repeat([]int{0, 1}, mostRoom/2)
	halved := append(slices.Repeat([]int{1}, mostRoom/2-1), 0)
	for _, x := range []struct {
		h    api.Hash
		l    []int
		want []int
	}{
		{pairsOf(0, 0, 0, 0), zeros, []int{0}},
		{pairsOf(tower...), zeros, []int{18}},
		{pairsOf(1, 0, 0, 1), first, []int{1}},
		{pairsOf(0, 1, 0, 1), last, []int{1}},
		{pairsOf(0, 1, 1, 1, 0, 0, 2, 1), last, []int{1}},
		{pairsOf(0, 0, 2, 1, 0, 1, 1, 0), last, halved},
		{pairsOf(0, 1, 1, 2, 2, 2, 2, 2), alternate, []int{2}},
		{pairsOf(1, 0, 1, 2, 2, 2, 1, 2), alternate, []int{0, 2, 1}},
	} {
		got, ok := vm.Merge(x.h, 19, x.l)
		if !ok || !slices.Equal(got, x.want) {
			t.Errorf("Merge(%s, %s) = %s of %d, %v; want %s", show(x.h), show(x.l[:9]), show(got), len(got), ok, show(x.want))
		}
	}
	if took := time.Since(since); took > 20*time.Second {
		t.Error("this took", took)
	}
}
