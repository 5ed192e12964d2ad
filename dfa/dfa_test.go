package dfa_test

import (
	"math"
	"slices"
	"strings"
	"sync"
	"testing"

	"fretsaw/api"
	"fretsaw/dfa"
)

// spread makes numbers that look as if there were no order in them: the same ones at each run.
func spread(n uint64) uint64 {
	n += 0x9E3779B97F4A7C15
	n = (n ^ n>>30) * 0xBF58476D1CE4E5B9
	n = (n ^ n>>27) * 0x94D049BB133111EB
	return n ^ n>>31
}

// dice throws numbers, the same ones for the same n.
type dice struct{ n, at uint64 }

func (d *dice) below(n int) int {
	d.at++
	return int(spread(d.n<<24|d.at) % uint64(n))
}

func (d *dice) text(bytes string, room int) string {
	var s strings.Builder
	for range d.below(room + 1) {
		s.WriteByte(bytes[d.below(len(bytes))])
	}
	return s.String()
}

// dfa is one that may be.
func (d *dice) dfa(states, classes int) api.Dfa {
	a := plain(1+d.below(states), 1+d.below(classes))
	for i, row := range a.Next {
		a.Accept[i] = d.below(3) == 0
		for j := range row {
			row[j] = d.below(len(a.Next)+1) - 1
		}
	}
	for b := range a.Class {
		a.Class[b] = uint8(d.below(len(a.Next[0])))
	}
	return a
}

// plain has so many states and classes, accepts nothing and goes nowhere.
func plain(states, classes int) api.Dfa {
	d := api.Dfa{Next: make([][]int, states), Accept: make([]bool, states)}
	for i := range d.Next {
		d.Next[i] = slices.Repeat([]int{-1}, classes)
	}
	return d
}

// onlyAB takes `ab` alone; its classes are those of `a`, of `b` and of all others.
func onlyAB() api.Dfa {
	d := plain(3, 3)
	d.Class['a'], d.Class['b'] = 1, 2
	d.Next[0][1], d.Next[1][2], d.Accept[2] = 1, 2, true
	return d
}

func checkRight(t *testing.T, d api.Dfa, want bool) {
	t.Helper()
	if got := dfa.Right(d); got != want || got != meantRight(d) {
		t.Errorf("Right(%s) = %t; want %t", showDfa(d), got, want)
	}
}

// checkEnds asks for both Ends and Longest.
func checkEnds(t *testing.T, d api.Dfa, s string, at int, want ...int) {
	t.Helper()
	if got := dfa.Ends(d, s, at); !slices.Equal(got, want) || !slices.Equal(want, meantEnds(d, s, at)) {
		t.Errorf("Ends(%s, %q, %d) = %v; want %v", showDfa(d), s, at, got, want)
	}
	last := -1
	if len(want) > 0 {
		last = want[len(want)-1]
	}
	if got := dfa.Longest(d, s, at); got != last {
		t.Errorf("Longest(%s, %q, %d) = %d; want %d", showDfa(d), s, at, got, last)
	}
}

// checkEach holds Ends and Longest against the chapter's words at each place of a text, and at those that are none.
func checkEach(t *testing.T, d api.Dfa, s string) {
	t.Helper()
	for at := range len(s) + 1 {
		checkEnds(t, d, s, at, meantEnds(d, s, at)...)
	}
	for _, at := range []int{math.MinInt, -len(s) - 1, -2, -1, len(s) + 1, len(s) + 2, 2*len(s) + 1, math.MaxInt} {
		checkEnds(t, d, s, at)
	}
}

// P8.1: how many states there may be.
func TestRightStates(t *testing.T) {
	checkRight(t, api.Dfa{}, false)
	checkRight(t, api.Dfa{Next: [][]int{}, Accept: []bool{}}, false)
	checkRight(t, plain(1, 1), true)
	checkRight(t, api.Dfa{Next: [][]int{{0}}, Accept: []bool{true}}, true)
	for _, states := range []int{1, 2, 3, 399, 400} {
		checkRight(t, plain(states, 1), true)
		checkRight(t, plain(states, 256), true)
	}
	for _, states := range []int{0, 401, 402, 800} {
		checkRight(t, plain(states, 1), false)
		checkRight(t, plain(states, 256), false)
	}
	for _, l := range [][2]int{{0, 1}, {1, 0}, {1, 2}, {2, 1}, {399, 400}, {400, 399}, {400, 401}, {401, 400}, {1, 400}, {400, 1}} {
		d := plain(l[0], 2)
		d.Accept = make([]bool, l[1])
		checkRight(t, d, false)
	}
	checkRight(t, api.Dfa{Next: plain(2, 2).Next}, false)
	checkRight(t, api.Dfa{Accept: make([]bool, 2)}, false)
}

// P8.1: how many elements a row may have.
func TestRightRows(t *testing.T) {
	for _, states := range []int{1, 2, 400} {
		for _, classes := range []int{1, 2, 255, 256} {
			checkRight(t, plain(states, classes), true)
		}
		for _, classes := range []int{0, 257, 258, 512} {
			checkRight(t, plain(states, classes), false)
		}
	}
	checkRight(t, api.Dfa{Next: make([][]int, 1), Accept: make([]bool, 1)}, false)
	checkRight(t, api.Dfa{Next: make([][]int, 5), Accept: make([]bool, 5)}, false)
	for _, classes := range []int{1, 2, 3, 255, 256} {
		for _, other := range []int{0, classes - 1, classes + 1, 257} {
			for _, i := range []int{0, 1, 3, 4} {
				d := plain(5, classes)
				d.Next[i] = slices.Repeat([]int{-1}, other)
				checkRight(t, d, false)
			}
		}
	}
}

// P8.1: what may stand in a row.
func TestRightNext(t *testing.T) {
	for _, states := range []int{1, 2, 5, 399, 400} {
		for _, classes := range []int{1, 2, 7, 256} {
			for _, i := range []int{0, states / 2, states - 1} {
				for _, j := range []int{0, classes / 2, classes - 1} {
					d := plain(states, classes)
					for _, next := range []int{-1, 0, states / 2, states - 1} {
						d.Next[i][j] = next
						checkRight(t, d, true)
					}
					for _, next := range []int{-2, -3, states, states + 1, 401, -256, math.MinInt, math.MaxInt, 1 << 32, math.MinInt32} {
						d.Next[i][j] = next
						checkRight(t, d, false)
					}
				}
			}
		}
	}
}

// P8.1: what may stand in Class, of whichever byte.
func TestRightClass(t *testing.T) {
	for _, classes := range []int{1, 2, 3, 128, 254, 255, 256} {
		for b := range 256 {
			for _, class := range []int{0, classes - 1, classes, classes + 1, 255} {
				d := plain(2, classes)
				d.Class[b] = uint8(class % 256)
				checkRight(t, d, class%256 < classes)
			}
		}
		d := plain(2, classes)
		for b := range d.Class {
			d.Class[b] = uint8(classes - 1)
		}
		checkRight(t, d, true)
	}
}

// P8.1: one that takes a single text, at each place.
func TestEnds(t *testing.T) {
	checkEnds(t, onlyAB(), "aab", 0)
	checkEnds(t, onlyAB(), "aab", 1, 3)
	checkEnds(t, onlyAB(), "abab", 0, 2)
	checkEnds(t, onlyAB(), "abab", 2, 4)
	checkEnds(t, onlyAB(), "abab", 4)
	for _, s := range []string{"", "a", "b", "ab", "aab", "abab", "aba", "xaby", "\x00ab\xff", "a\xc3\xa9b"} {
		checkEach(t, onlyAB(), s)
	}
}

// P8.1: nothing, the empty text, any text, any number of one byte.
func TestEndsOfAll(t *testing.T) {
	nothing, empty, any, many := plain(1, 1), plain(1, 1), plain(1, 1), plain(1, 2)
	empty.Accept[0] = true
	any.Accept[0], any.Next[0][0] = true, 0
	many.Accept[0], many.Class['a'], many.Next[0][1] = true, 1, 0
	ring := plain(1, 1)
	ring.Next[0][0] = 0
	for _, s := range []string{"", "a", "aaab", "baa", "\x00\xff\x80", "aa\u00e9aa"} {
		for _, d := range []api.Dfa{nothing, empty, any, many, ring} {
			checkEach(t, d, s)
		}
		for at := range len(s) + 1 {
			checkEnds(t, nothing, s, at)
			checkEnds(t, ring, s, at)
			checkEnds(t, empty, s, at, at)
			if got := dfa.Ends(any, s, at); len(got) != len(s)-at+1 || got[0] != at || dfa.Longest(any, s, at) != len(s) {
				t.Errorf("Ends of any text, %q, %d: %v", s, at, got)
			}
		}
	}
	checkEnds(t, many, "aaab", 1, 1, 2, 3)
	checkEnds(t, many, "aaab", 3, 3)
	checkEnds(t, many, "aaab", 4, 4)
}

// P8.1: one that may not be takes nothing at all, even if it could be gone through.
func TestEndsOfWrong(t *testing.T) {
	wrong := []api.Dfa{{}, plain(0, 0), plain(1, 0), plain(401, 1), plain(2, 257), plain(401, 257)}
	for _, change := range []func(d *api.Dfa){
		func(d *api.Dfa) { d.Accept = append(d.Accept, true) },
		func(d *api.Dfa) { d.Accept = d.Accept[:2] },
		func(d *api.Dfa) { d.Accept = nil },
		func(d *api.Dfa) { d.Next = d.Next[:2] },
		func(d *api.Dfa) { d.Next = nil },
		func(d *api.Dfa) { d.Next[2] = nil },
		func(d *api.Dfa) { d.Next[1] = append(d.Next[1], -1) },
		func(d *api.Dfa) { d.Next[2][0] = 3 },
		func(d *api.Dfa) { d.Next[2][0] = -2 },
		func(d *api.Dfa) { d.Next[0][0] = math.MaxInt },
		func(d *api.Dfa) { d.Next[0][0] = math.MinInt },
		func(d *api.Dfa) { d.Class[255] = 3 },
		func(d *api.Dfa) { d.Class['a'] = 255 },
	} {
		d := onlyAB()
		change(&d)
		wrong = append(wrong, d)
	}
	for _, d := range wrong {
		for i := range d.Accept {
			d.Accept[i] = true
		}
		checkRight(t, d, false)
		for _, s := range []string{"", "a", "ab", "abx\xff"} {
			for at := range len(s) + 1 {
				checkEnds(t, d, s, at)
			}
			checkEach(t, d, s)
		}
	}
}

// P8.1: many, against the chapter's words.
func TestEndsOfMany(t *testing.T) {
	for i := range 3000 {
		d := &dice{n: uint64(i)}
		a := d.dfa(6, 4)
		checkRight(t, a, true)
		checkEach(t, a, d.text("abc\x00\xff\xc3\xa9", 9))
	}
	for i := range 20 {
		d := &dice{n: uint64(i) + 1<<32}
		a := d.dfa(400, 256)
		for s := range 10 {
			d.at = uint64(s) << 20
			checkEach(t, a, d.text("abcdefgh\x00\xff", 12))
		}
	}
}

// P8.1: in a long text, to its end or to the place at which there is no way on.
func TestEndsOfLong(t *testing.T) {
	two := plain(2, 2)
	two.Class['a'], two.Next[0][1], two.Next[1][1], two.Accept[0] = 1, 1, 0, true
	s := strings.Repeat("a", 1<<20)
	for _, at := range []int{0, 1, 2, 1<<20 - 3, 1<<20 - 1, 1 << 20} {
		got := dfa.Ends(two, s+"b", at)
		for i, to := range got {
			if to != at+2*i {
				t.Fatal("Ends from", at, ":", i, "is", to)
			}
		}
		if want := (1<<20-at)/2 + 1; len(got) != want {
			t.Error("Ends from", at, "are", len(got))
		}
		if got := dfa.Longest(two, s, at); got != 1<<20-at%2 {
			t.Error("Longest from", at, "is", got)
		}
	}
}

// R4: what is answered is new memory, and what is given stays as it is.
func TestNewMemory(t *testing.T) {
	d := (&dice{n: 5}).dfa(6, 4)
	d.Accept[0] = true
	kept := plain(len(d.Next), len(d.Next[0]))
	kept.Class = d.Class
	copy(kept.Accept, d.Accept)
	for i, row := range d.Next {
		copy(kept.Next[i], row)
	}
	want := dfa.Ends(d, "abcabc", 0)
	for i := range 3 {
		got := dfa.Ends(d, "abcabc", 0)
		if !slices.Equal(got, want) {
			t.Error("Ends are others:", got, want)
		}
		for j := range got {
			got[j] = -7 - i
		}
	}
	for i, row := range d.Next {
		if !slices.Equal(row, kept.Next[i]) {
			t.Error("Next was changed")
		}
	}
	if d.Class != kept.Class || !slices.Equal(d.Accept, kept.Accept) {
		t.Error("Class or Accept was changed")
	}
}

// R1: no call keeps anything, so that several may be made at one time.
func TestNothingIsKept(t *testing.T) {
	shared := (&dice{n: 9}).dfa(9, 4)
	n := parsed(t, "(a|b*)c{0,2}|[a-c]+d")
	want := built(t, n)
	var group sync.WaitGroup
	for range 8 {
		group.Go(func() {
			for i := range 60 {
				d := &dice{n: uint64(i)}
				checkEach(t, shared, d.text("abcd", 9))
				checkRight(t, api.Dfa{}, false)
				checkNone(t, chain(401), api.ErrStates)
				checkNone(t, api.Nfa{}, api.ErrArg)
				if !same(built(t, n), want) {
					t.Error("another dfa of the same nfa")
				}
				checkBuild(t, d.nfa(5, 9), d.text("abcd", 9))
			}
		})
	}
	group.Wait()
}

func FuzzEnds(f *testing.F) {
	f.Add(uint64(1), uint8(3), uint8(3), "abc", 0, 0)
	f.Fuzz(func(t *testing.T, seed uint64, states, classes uint8, s string, at, next int) {
		d := &dice{n: seed}
		a := d.dfa(1+int(states), 1+int(classes))
		s = s[:min(len(s), 30)]
		checkRight(t, a, true)
		checkEnds(t, a, s, at, meantEnds(a, s, at)...)
		checkEach(t, a, s)
		a.Next[d.below(len(a.Next))][d.below(len(a.Next[0]))] = next
		checkRight(t, a, meantRight(a))
		checkEach(t, a, s)
	})
}
