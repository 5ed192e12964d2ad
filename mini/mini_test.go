package mini_test

import (
	"math"
	"slices"
	"strings"
	"sync"
	"testing"

	"fretsaw/api"
	"fretsaw/dfa"
	"fretsaw/mini"
	"fretsaw/nfa"
	"fretsaw/regex"
)

// spread makes numbers that look as if there were no order in them: the same ones at each run.
func spread(n uint64) uint64 {
	n += 0x9E3779B97F4A7C15
	n = (n ^ n>>30) * 0xBF58476D1CE4E5B9
	n = (n ^ n>>27) * 0x94D049BB133111EB
	return n ^ n>>31
}

// dice throws numbers, the same ones for the same n.
type dice struct{ n, at uint64 }

func (d *dice) below(n int) int {
	d.at++
	return int(spread(d.n<<24|d.at) % uint64(n))
}

func (d *dice) text(bytes string, room int) string {
	var s strings.Builder
	for range d.below(room + 1) {
		s.WriteByte(bytes[d.below(len(bytes))])
	}
	return s.String()
}

// order is the numbers below n, in some order.
func (d *dice) order(n int) []int {
	l := make([]int, n)
	for i := range l {
		j := d.below(i + 1)
		l[i], l[j] = l[j], i
	}
	return l
}

// dfa is one that may be. Few bytes have other classes than all the others, so that texts of these go far.
func (d *dice) dfa(states, classes int) api.Dfa {
	a := plain(1+d.below(states), 1+d.below(classes))
	some := 1 + d.below(4)
	for i, row := range a.Next {
		a.Accept[i] = d.below(3) == 0
		for j := range row {
			if row[j] = d.below(len(a.Next)+1) - 1; d.below(some) > 0 {
				row[j] = d.below(min(3, len(a.Next)+1)) - 1
			}
		}
	}
	rest := uint8(d.below(classes) % len(a.Next[0]))
	for b := range a.Class {
		if a.Class[b] = rest; b < 4 || b >= 'a' && b <= 'f' || b == 255 {
			a.Class[b] = uint8(d.below(len(a.Next[0])))
		}
	}
	return a
}

// bytes puts some byte for each.
func (d *dice) bytes() (to [256]uint8) {
	for b := range to {
		if to[b] = uint8(b); d.below(3) > 0 {
			to[b] = "abcdef\x00\x01\xff\x80"[d.below(10)]
		}
	}
	return to
}

// plain has so many states and classes, accepts nothing and goes nowhere.
func plain(states, classes int) api.Dfa {
	d := api.Dfa{Next: make([][]int, states), Accept: make([]bool, states)}
	for i := range d.Next {
		d.Next[i] = slices.Repeat([]int{-1}, classes)
	}
	return d
}

// like has these rows; the state i accepts, if the byte i of the text is `+`; each further text has the bytes of a class, from 1 on.
func like(next [][]int, accept string, classes ...string) api.Dfa {
	d := api.Dfa{Next: next, Accept: make([]bool, len(accept))}
	for i := range d.Accept {
		d.Accept[i] = accept[i] == '+'
	}
	for i, bytes := range classes {
		for j := range len(bytes) {
			d.Class[bytes[j]] = uint8(i + 1)
		}
	}
	return d
}

// nothing is the least of what takes nothing.
func nothing() api.Dfa { return plain(1, 1) }

// self has each byte for itself.
func self() (to [256]uint8) {
	for b := range to {
		to[b] = uint8(b)
	}
	return to
}

// only has one byte for all.
func only(one byte) (to [256]uint8) {
	for b := range to {
		to[b] = one
	}
	return to
}

// parsed is the dfa of an expression's text.
func parsed(t *testing.T, s string) api.Dfa {
	t.Helper()
	tree, e, at := regex.Parse(s)
	if e != api.OK {
		t.Fatalf("Parse(%q) = %d, %d", s, e, at)
	}
	n, e := nfa.Build(tree)
	if e != api.OK {
		t.Fatalf("nfa.Build of %q: %d", s, e)
	}
	d, e := dfa.Build(n)
	if e != api.OK {
		t.Fatalf("dfa.Build of %q: %d", s, e)
	}
	return d
}

// least is the least of a dfa that may be: P9.3, too, all of which can be seen at one dfa.
func least(t *testing.T, d api.Dfa) api.Dfa {
	t.Helper()
	kept := copied(d)
	m, e := mini.Least(d)
	if e != api.OK || !dfa.Right(m) {
		t.Errorf("Least(%s) = %s, %d", show(d), show(m), e)
		return m
	}
	if !same(kept, d) {
		t.Errorf("Least changed %s to %s", show(kept), show(d))
	}
	if !takeSame(d, m) {
		t.Errorf("Least(%s) = %s takes other texts", show(d), show(m))
	}
	if again, e := mini.Least(m); e != api.OK || !same(again, m) {
		t.Errorf("Least(%s) = %s, %d; want itself", show(m), show(again), e)
	}
	return m
}

func checkLeast(t *testing.T, d, want api.Dfa) {
	t.Helper()
	if got := least(t, d); !same(got, want) {
		t.Errorf("Least(%s) = %s; want %s", show(d), show(got), show(want))
	}
}

// checkMeant holds the least against the chapter's words.
func checkMeant(t *testing.T, d api.Dfa) {
	t.Helper()
	checkLeast(t, d, meantLeast(d))
}

func mapped(t *testing.T, d api.Dfa, to [256]uint8) api.Dfa {
	t.Helper()
	kept := copied(d)
	m, e := mini.Map(d, to)
	if e != api.OK || !dfa.Right(m) {
		t.Errorf("Map(%s, %v) = %s, %d", show(d), to, show(m), e)
		return m
	}
	if !same(kept, d) {
		t.Errorf("Map changed %s to %s", show(kept), show(d))
	}
	return m
}

func checkMap(t *testing.T, d api.Dfa, to [256]uint8, want api.Dfa) {
	t.Helper()
	if got := mapped(t, d, to); !same(got, want) {
		t.Errorf("Map(%s, %v) = %s; want %s", show(d), to, show(got), show(want))
	}
}

// checkTaken holds what the least takes, and what a mapped one takes, against the dfa, from each place of texts on.
func checkTaken(t *testing.T, d api.Dfa, to [256]uint8, of ...string) {
	t.Helper()
	m, f := least(t, d), mapped(t, d, to)
	for _, s := range of {
		for at := range len(s) + 1 {
			if got, want := dfa.Ends(m, s, at), dfa.Ends(d, s, at); !slices.Equal(got, want) {
				t.Errorf("Ends(Least(%s), %q, %d) = %v; want %v", show(d), s, at, got, want)
			}
			if got, want := dfa.Ends(f, s, at), dfa.Ends(d, made(s, to), at); !slices.Equal(got, want) {
				t.Errorf("Ends(Map(%s, %v), %q, %d) = %v; want %v", show(d), to, s, at, got, want)
			}
		}
	}
}

// checkWrong asks for ErrDfa and nothing beside it, of both calls.
func checkWrong(t *testing.T, d api.Dfa) {
	t.Helper()
	if m, e := mini.Least(d); e != api.ErrDfa || !isZero(m) {
		t.Errorf("Least(%s) = %s, %d", show(d), show(m), e)
	}
	for _, to := range [][256]uint8{{}, self(), only('a'), only(255)} {
		if m, e := mini.Map(d, to); e != api.ErrDfa || !isZero(m) {
			t.Errorf("Map(%s, %v) = %s, %d", show(d), to, show(m), e)
		}
	}
}

// The chapter's own examples.
func TestExamples(t *testing.T) {
	one := like([][]int{{-1, 1}, {-1, -1}}, "-+", "ab")
	checkLeast(t, parsed(t, "a|b"), one)
	checkLeast(t, parsed(t, "[ab]"), one)
	many := like([][]int{{-1, 0}}, "+", "ab")
	checkLeast(t, parsed(t, "(a|b)*"), many)
	checkLeast(t, parsed(t, "(a*b*)*"), many)
	checkLeast(t, parsed(t, `[^\x00-\xff]`), nothing())
	if d := nothing(); len(d.Next) != 1 || d.Accept[0] || len(d.Next[0]) != 1 || d.Next[0][0] != -1 {
		t.Error(show(d))
	}
}

// P9.1, P9.2: how many states there may be.
func TestWrongStates(t *testing.T) {
	checkWrong(t, api.Dfa{})
	checkWrong(t, api.Dfa{Next: [][]int{}, Accept: []bool{}})
	checkWrong(t, api.Dfa{Next: [][]int{{0}}})
	checkWrong(t, api.Dfa{Accept: []bool{true}})
	for _, states := range []int{401, 402, 800} {
		checkWrong(t, plain(states, 1))
		checkWrong(t, plain(states, 256))
	}
	for _, l := range [][2]int{{1, 2}, {2, 1}, {400, 399}, {399, 400}, {400, 401}, {401, 400}, {1, 0}, {0, 1}} {
		d := plain(l[0], 2)
		d.Accept = make([]bool, l[1])
		checkWrong(t, d)
	}
}

// P9.1, P9.2: what rows may be, even of states that are not reached, and by classes that no byte has.
func TestWrongRows(t *testing.T) {
	for _, classes := range []int{0, 257, 300} {
		checkWrong(t, plain(1, classes))
		checkWrong(t, plain(3, classes))
	}
	for _, i := range []int{0, 1, 4} {
		for _, classes := range []int{0, 1, 2, 4, 256} {
			d := plain(5, 3)
			d.Next[i] = slices.Repeat([]int{-1}, classes)
			checkWrong(t, d)
		}
		for _, next := range []int{-2, -3, 5, 6, 400, math.MinInt, math.MaxInt, 1 << 16, -1 << 16, 1<<32 + 1, 1<<16 - 1} {
			for _, class := range []int{0, 1, 2} {
				d := plain(5, 3)
				d.Next[i][class] = next
				checkWrong(t, d)
			}
		}
	}
	d := plain(400, 256)
	d.Next[399][255] = 400
	checkWrong(t, d)
	d.Next[399][255] = -2
	checkWrong(t, d)
	d.Next[399][255] = 399
	checkLeast(t, d, nothing())
}

// P9.1, P9.2: a Class beyond the last, of whichever byte, even if a map puts that byte for none.
func TestWrongClass(t *testing.T) {
	for b := range 256 {
		for _, classes := range []int{1, 2, 255} {
			for _, class := range []int{classes, 255} {
				d := plain(2, classes)
				d.Class[b] = uint8(class)
				checkWrong(t, d)
			}
		}
	}
}

// P9.1: what is not reached counts for nothing: for no state, no class, no order.
func TestNotReached(t *testing.T) {
	want := like([][]int{{-1, 1}, {-1, -1}}, "-+", "a")
	checkLeast(t, like([][]int{{-1, 1}, {-1, -1}, {0, 1}}, "-++", "a"), want)
	checkLeast(t, like([][]int{{-1, 3}, {3, 0}, {1, 2}, {-1, -1}}, "-+++", "a"), want)
	// From the third state on other classes would be told apart.
	checkLeast(t, like([][]int{{-1, 1, 1}, {-1, -1, -1}, {0, 1, 2}}, "-+-", "a", "b"), like([][]int{{-1, 1}, {-1, -1}}, "-+", "ab"))
	// One state is reached through another one alone, and neither is live.
	checkLeast(t, like([][]int{{2, 1}, {-1, -1}, {3, 2}, {3, -1}}, "-+--", "a"), want)
	// Many, that reach what is reached.
	d := plain(400, 3)
	d.Class['a'], d.Class['b'] = 1, 2
	for i := 2; i < 400; i++ {
		d.Next[i] = []int{i - 1, i - 2, (i * 7) % 400}
		d.Accept[i] = i%3 == 0
	}
	d.Next[0][1], d.Accept[1] = 1, true
	checkLeast(t, d, want)
}

// P9.1: states from which nothing is taken become -1, and their classes are told apart no more.
func TestNotLive(t *testing.T) {
	want := like([][]int{{-1, 1}, {-1, -1}}, "-+", "a")
	checkLeast(t, like([][]int{{2, 1}, {2, 2}, {2, 2}}, "-+-", "a"), want)
	checkLeast(t, like([][]int{{2, 1}, {3, 2}, {3, -1}, {-1, 2}}, "-+--", "a"), want)
	checkLeast(t, like([][]int{{2, 1, -1}, {-1, 3, 2}, {2, 3, -1}, {3, 2, 2}}, "-+--", "a", "b"), want)
	// Before any that are live, and a long row of them.
	d := plain(400, 2)
	d.Class['a'] = 1
	for i := range 398 {
		d.Next[i+1] = []int{min(i+2, 398), -1}
	}
	d.Next[0], d.Accept[399] = []int{1, 399}, true
	checkLeast(t, d, want)
	d.Next[398][1] = 399
	d.Next[0][0] = 200
	if m := least(t, d); len(m.Next) != 201 {
		t.Error("states:", len(m.Next))
	}
}

// P9.1: a state 0 that is not live stays, alone.
func TestNothing(t *testing.T) {
	for _, d := range []api.Dfa{
		plain(1, 1), plain(1, 2), plain(1, 256), plain(2, 1), plain(400, 1), plain(400, 256),
		like([][]int{{0}}, "-"),
		like([][]int{{0, 0}}, "-", "a"),
		like([][]int{{1, 0}, {0, -1}}, "--", "a"),
		like([][]int{{-1}, {0}}, "-+"),
		like([][]int{{1, 0}, {1, -1}, {0, 2}}, "--+", "a"),
	} {
		checkLeast(t, d, nothing())
		checkMeant(t, d)
		checkMap(t, d, only('a'), nothing())
	}
	ring := plain(400, 256)
	for i := range ring.Next {
		for j := range 256 {
			ring.Next[i][j] = (i + j + 1) % 400
			ring.Class[j] = uint8(j)
		}
	}
	checkLeast(t, ring, nothing())
	ring.Accept[0] = true
	if m := least(t, ring); len(m.Next) != 400 || len(m.Next[0]) != 256 {
		t.Error(show(m))
	}
	for i := range ring.Accept {
		ring.Accept[i] = true
	}
	checkLeast(t, ring, like([][]int{{0}}, "+"))
}

// P9.1: alike ones are one, wherever they stand, state 0 among them.
func TestAlike(t *testing.T) {
	want := like([][]int{{-1, 1, 1}, {-1, 2, -1}, {-1, -1, -1}}, "--+", "a", "b")
	checkLeast(t, like([][]int{{-1, 1, 1}, {-1, 2, -1}, {-1, -1, -1}}, "--+", "a", "b"), want)
	checkLeast(t, like([][]int{{-1, 1, 4}, {-1, 5, -1}, {-1, -1, -1}, {0, 0, 0}, {-1, 2, -1}, {-1, -1, -1}}, "--+--+", "a", "b"), want)
	checkLeast(t, like([][]int{{-1, 4, 2}, {-1, -1, -1}, {-1, 3, -1}, {-1, -1, -1}, {-1, 1, -1}}, "-+-+-", "a", "b"), want)
	// State 0 is alike to another one.
	checkLeast(t, like([][]int{{1}, {2}, {3}, {0}}, "+-+-"), like([][]int{{1}, {0}}, "+-"))
	checkLeast(t, like([][]int{{-1, 1}, {-1, 2}, {-1, 0}}, "+++", "a"), like([][]int{{-1, 0}}, "+", "a"))
	// Only texts of three bytes tell these apart.
	far := like([][]int{{1, 2}, {3, -1}, {4, -1}, {5, -1}, {6, -1}, {7, -1}, {-1, -1}, {-1, -1}}, "-------+", "a")
	checkLeast(t, far, like([][]int{{1, -1}, {2, -1}, {3, -1}, {4, -1}, {-1, -1}}, "----+", "a"))
	far.Accept[6] = true
	checkLeast(t, far, like([][]int{{1, 2}, {2, -1}, {3, -1}, {4, -1}, {-1, -1}}, "----+", "a"))
	far.Accept[2] = true
	checkLeast(t, far, like([][]int{{1, 2}, {3, -1}, {4, -1}, {4, -1}, {5, -1}, {-1, -1}}, "--+--+", "a"))
}

// P9.1: classes by which every state goes the same become one; those that no byte has go.
func TestClasses(t *testing.T) {
	want := like([][]int{{-1, 1}, {-1, -1}}, "-+", "abc")
	checkLeast(t, like([][]int{{-1, 1, 1, 1}, {-1, -1, -1, -1}}, "-+", "a", "b", "c"), want)
	checkLeast(t, like([][]int{{-1, 1, 2, 3}, {-1, -1, -1, -1}, {-1, -1, -1, -1}, {-1, -1, -1, -1}}, "-+++", "a", "b", "c"), want)
	checkLeast(t, like([][]int{{2, 1, 3, 1}, {3, -1, 2, 3}, {2, 2, 3, -1}, {3, -1, 2, 2}}, "-+--", "a", "", "bc"), want)
	// By a class that no byte has no state is reached, none is live, and none are told apart.
	checkLeast(t, like([][]int{{-1, 1, 2}, {-1, -1, 0}, {0, 1, 2}}, "-++", "abc"), want)
	checkLeast(t, like([][]int{{2, 1, 1}, {-1, -1, -1}, {-1, -1, 1}}, "-+-", "abc"), want)
	checkLeast(t, like([][]int{{-1, 1, 1, 2}, {-1, -1, -1, -1}, {-1, -1, -1, 0}}, "-++", "ab", "c"), want)
	checkLeast(t, like([][]int{{-1, -1, 1}, {1, 1, 1}}, "-+", "abc"), nothing())
	// All bytes are of the last class, of many.
	d := plain(2, 256)
	for b := range d.Class {
		d.Class[b] = 255
		d.Next[0][b], d.Next[1][b] = 0, b%2
	}
	d.Accept[1], d.Next[0][255], d.Next[1][255] = true, 1, -1
	checkLeast(t, d, like([][]int{{1}, {-1}}, "-+"))
}

// P9.1: classes stand in the order of their least bytes, states as they are met first.
func TestOrder(t *testing.T) {
	// The class of the byte 0 is the first one, whatever it was.
	d := like([][]int{{-1, 1, 2, 3}, {-1, -1, -1, -1}, {-1, 1, -1, -1}, {-1, -1, 1, -1}}, "-+--", "c", "b", "\x00a")
	checkMeant(t, d)
	m := least(t, d)
	if m.Class[0] != 0 || m.Class[1] != 1 || m.Class['a'] != 0 || m.Class['b'] != 2 || m.Class['c'] != 3 || m.Class[255] != 1 {
		t.Error(show(m))
	}
	if !slices.EqualFunc(m.Next, [][]int{{1, -1, 2, 3}, {-1, -1, 3, -1}, {-1, -1, -1, 3}, {-1, -1, -1, -1}}, slices.Equal[[]int]) {
		t.Error(show(m))
	}
	// State by state: what state 0 goes to comes ahead of what the next one goes to, by whichever class.
	d = like([][]int{{4, -1, 3}, {0, -1, -1}, {-1, 1, -1}, {2, -1, 4}, {-1, 1, 2}}, "+----", "a", "b")
	checkLeast(t, d, like([][]int{{1, -1, 2}, {-1, 3, 4}, {4, -1, 1}, {0, -1, -1}, {-1, 3, -1}}, "+----", "a", "b"))
	// Each byte by itself leads to a state of its own, in any order: they are met by rising bytes.
	for seed := range 20 {
		order := (&dice{n: uint64(seed)}).order(256)
		names := (&dice{n: uint64(seed) + 99}).order(256)
		d, want := plain(258, 256), plain(258, 256)
		for b := range 256 {
			d.Class[b], want.Class[b] = uint8(order[b]), uint8(b)
			d.Next[0][order[b]], want.Next[0][b] = 1+names[b], 1+b
			d.Next[1+names[b]][order[b]], want.Next[1+b][b] = 257, 257
		}
		d.Accept[257], want.Accept[257] = true, true
		checkLeast(t, d, want)
	}
}

// P9.1: the greatest and the smallest that there may be.
func TestSizes(t *testing.T) {
	checkLeast(t, like([][]int{{0}}, "+"), like([][]int{{0}}, "+"))
	checkLeast(t, like([][]int{{-1}}, "+"), like([][]int{{-1}}, "+"))
	checkLeast(t, like([][]int{{-1, -1, -1}}, "+", "a", "b"), like([][]int{{-1}}, "+"))
	for _, states := range []int{2, 3, 127, 128, 255, 256, 257, 399, 400} {
		// A row of bytes `a`; a ring of all bytes; and a ring in which one byte stays.
		row, ring, stay := plain(states, 2), plain(states, 1), plain(states, 256)
		row.Class['a'] = 1
		for i := range states {
			row.Next[i][1] = min(i+2, states) - 1
			ring.Next[i][0] = (i + 1) % states
			for b := range 256 {
				stay.Class[b] = uint8(b)
				stay.Next[i][b] = (i + b + states - 100%states) % states
			}
		}
		row.Next[states-1][1] = -1
		row.Accept[states-1], ring.Accept[states-1], stay.Accept[0] = true, true, true
		checkLeast(t, row, row)
		checkLeast(t, ring, ring)
		if m := least(t, stay); len(m.Next) != states || len(m.Next[0]) != min(states, 256) {
			t.Error(states, show(m))
		}
		for i := range states {
			ring.Accept[i] = i%2 == 0
		}
		if states%2 == 0 {
			checkLeast(t, ring, like([][]int{{1}, {0}}, "+-"))
		} else {
			checkLeast(t, ring, ring)
		}
	}
}

// P9.1: states that go to others alone that were told apart all at once: however many these are, each counts as itself.
func TestToldApartAtOnce(t *testing.T) {
	const codes, first, on, to, ahead = 390, 4, 9, 10, 11 // by the bytes 0 to 8 a code's bits lead to the state 1, which accepts
	d := plain(first+codes, 15)
	for b := range 14 {
		d.Class[b] = uint8(b + 1)
	}
	d.Accept[1] = true
	for code := range codes {
		for bit := range 9 {
			if code>>bit&1 == 1 {
				d.Next[first+code][bit+1] = 1
			}
		}
		d.Next[first+code][on+1] = first + min(code+1, codes-1)
	}
	d.Next[0][on+1], d.Next[0][ahead+1], d.Next[0][ahead+2] = first, 2, 3
	for code := range codes {
		for _, far := range []int{1, 2, 64, 127, 128, 129, 255, 256, 257} {
			if code%96 == 1 && code+far < codes {
				d.Next[2][to+1], d.Next[3][to+1] = first+code, first+code+far
				if m := least(t, d); len(m.Next) != len(d.Next) {
					t.Error(code, far, show(m))
				}
			}
		}
	}
	d.Next[3][to+1] = d.Next[2][to+1]
	if m := least(t, d); len(m.Next) != len(d.Next)-1 {
		t.Error(show(m))
	}
}

// P9.1: many, against the chapter's words.
func TestMany(t *testing.T) {
	fewer, whole := 0, 0
	for i := range 3000 {
		d := (&dice{n: uint64(i)}).dfa(7, 5)
		checkMeant(t, d)
		if m := least(t, d); len(m.Next) < len(d.Next) {
			fewer++
		} else {
			whole++
		}
	}
	for i := range 60 {
		checkMeant(t, (&dice{n: uint64(i) + 1<<32}).dfa(40, 40))
	}
	checkMeant(t, (&dice{n: 1 << 33}).dfa(200, 256))
	if fewer < 300 || whole < 300 {
		t.Error("these show too little:", fewer, whole)
	}
}

// blown takes the same as the least m: each state of m stands in it several times, each class, too; there are states that are not live, and that are not reached, and classes that no byte has, and no order in all of that.
func (d *dice) blown(m api.Dfa, times, more int) api.Dfa {
	states, classes := len(m.Next), len(m.Next[0])
	live, classTimes := states*times, min(times, 256/classes)
	order := d.order(live + 2*more)
	for i, n := range order {
		if n == 0 { // the first copy of state 0
			order[0], order[i] = order[i], order[0]
		}
	}
	place := make([]int, len(order))
	for i, n := range order {
		place[n] = i
	}
	classOrder := d.order(min(256, classes*classTimes+more))
	copyOf := func(state int) int { return place[state+states*d.below(times)] }
	gone := func() int {
		if d.below(2) == 0 || more == 0 {
			return -1
		}
		return place[live+d.below(more)]
	}
	out := plain(len(order), len(classOrder))
	for b, class := range m.Class {
		out.Class[b] = uint8(slices.Index(classOrder, int(class)+classes*d.below(classTimes)))
	}
	for i, n := range order {
		out.Accept[i] = n < live && m.Accept[n%states] || n >= live+more && d.below(2) == 0
		for j, class := range classOrder {
			switch {
			case n >= live+more || class >= classes*classTimes:
				out.Next[i][j] = d.below(len(order)+1) - 1
			case n >= live || m.Next[n%states][class%classes] == -1:
				out.Next[i][j] = gone()
			default:
				out.Next[i][j] = copyOf(m.Next[n%states][class%classes])
			}
		}
	}
	return out
}

// P9.1, P9.3: two that take the same texts have the same least.
func TestBlown(t *testing.T) {
	for i := range 1200 {
		d := &dice{n: uint64(i)}
		m := least(t, d.dfa(8, 6))
		checkLeast(t, d.blown(m, 1+d.below(5), d.below(9)), m)
	}
	for i := range 40 {
		d := &dice{n: uint64(i) + 1<<32}
		m := least(t, d.dfa(90, 80))
		checkLeast(t, d.blown(m, 4, 20), m)
	}
	row := plain(100, 2)
	row.Class['a'], row.Accept[99] = 1, true
	for i := range 99 {
		row.Next[i][1] = i + 1
	}
	for i := range 10 {
		checkLeast(t, (&dice{n: uint64(i)}).blown(row, 4, 0), row)
		checkLeast(t, (&dice{n: uint64(i)}).blown(row, 3, 50), row)
	}
}

// P9.3: of all of up to three states and two classes, those that take the same have the same least, others have others, and none has fewer states than its least.
func TestAllSmall(t *testing.T) {
	short := texts("ab", 6) // with none beside their states both have at most 4 of these: a text of at most 4 + 4 - 2 bytes tells them apart
	var lock sync.Mutex
	leasts := map[string]api.Dfa{}
	var group sync.WaitGroup
	for states := 1; states <= 3; states++ {
		for accept := range 1 << states {
			group.Go(func() {
				d := plain(states, 2)
				d.Class['b'] = 1
				for i := range states {
					d.Accept[i] = accept>>i&1 == 1
				}
				for more := true; more; more = another(d) {
					m, e := mini.Least(d)
					if e != api.OK || len(m.Next) > states {
						t.Errorf("Least(%s) = %s, %d", show(d), show(m), e)
					}
					key := taken(d, short)
					lock.Lock()
					if had, found := leasts[key]; !found {
						leasts[key] = m
					} else if !same(had, m) {
						t.Errorf("Least(%s) = %s; want %s", show(d), show(m), show(had))
					}
					lock.Unlock()
				}
			})
		}
	}
	group.Wait()
	for key, m := range leasts {
		if taken(m, short) != key {
			t.Errorf("%s takes other texts", show(m))
		}
	}
	if len(leasts) < 1000 {
		t.Error("these show too little:", len(leasts))
	}
}

// another counts a dfa's elements up, as digits; behind the last one there is no other.
func another(d api.Dfa) bool {
	for _, row := range d.Next {
		for j := range row {
			if row[j]++; row[j] < len(d.Next) {
				return true
			}
			row[j] = -1
		}
	}
	return false
}

// taken tells of each text whether it is taken, with `a` for all bytes but `b`.
func taken(d api.Dfa, of []string) string {
	var out strings.Builder
	for _, s := range of {
		state := 0
		for i := range len(s) {
			state = goes(d, state, int(s[i]))
		}
		if accepts(d, state) {
			out.WriteByte('+')
		} else {
			out.WriteByte('-')
		}
	}
	return out.String()
}

// texts are all of up to so many bytes.
func texts(bytes string, room int) []string {
	out := []string{""}
	for i := 0; i < len(out); i++ {
		for b := range len(bytes) {
			if len(out[i]) < room {
				out = append(out, out[i]+bytes[b:b+1])
			}
		}
	}
	return out
}

// P9.3: what is taken of texts, from each place on; and P9.2: of what is made of them.
func TestTaken(t *testing.T) {
	short := append(texts("abc", 3), "abcabcab", "fedcba", "a\x00b\xffc", "\x01\x02\x03\x80", "aa\xc3\xa9aa")
	for i := range 400 {
		d := &dice{n: uint64(i)}
		a := d.dfa(8, 6)
		checkTaken(t, a, d.bytes(), append(short, d.text("abcdef\x00\xff", 30))...)
	}
	for i := range 20 {
		d := &dice{n: uint64(i) + 1<<32}
		a := d.dfa(400, 256)
		checkTaken(t, a, d.bytes(), d.text("abcdef\x00\xff", 30), d.text("abcdef\x00\xff", 30))
	}
	for _, s := range []string{"a*b?", "(a|ab)(c|bcd)", "(a|b)*abb", "((a|b)*c|a){2,3}", "[a-z]+|[0-9]{1,2}", "'s| ?[a-z]+| ?[0-9]+| +", "()", "(a|b)*a(a|b){7}"} {
		checkTaken(t, parsed(t, s), (&dice{n: 5}).bytes(), append(short, "it's 12 o'clock", strings.Repeat("abc", 12), "aabx")...)
	}
}

// P9.3: expressions that take the same have the same least, and others have others.
func TestExpressions(t *testing.T) {
	all := [][]string{
		{"a|b", "b|a", "[ab]", "[ba]", "a|b|a", "(b)|(a)"},
		{"aa", "aa|aa", "a{2}", "a{2,2}", "(aa|aa)|aa"},
		{"a*", "(a*)*", "((a*)*)*", "(a+)?", "(a?)*", "(a?)+", "a*a*", "a{0,}", "()|a*", "(aa|a)*"},
		{"a+", "aa*", "a*a", "a{1,}", "(a+)+", "a|aa+"},
		{"a?", "a|()", "()|a", "a{0,1}", "(a?)?"},
		{"(a|b)*", "(a*b*)*", "(b|a)*", "(a*|b)*", "((a|b)*)*", "a*(ba*)*", "[ab]*"},
		{"(ab)*a", "a(ba)*"},
		{"ab|ac", "a(b|c)", "a[bc]", "ac|ab"},
		{"(a|b)*abb", "(b|a)*abb", "((a*b*)*)abb", "(b*a+b)*b*a+bb|(b*a+b)*b*abb"},
		{`[^\x00-\xff]`, `a[^\x00-\xff]b`, `[^\x00-\xff]+`, `b*[^\x00-\xff]|[^\x00-\xff]a`},
		{"()", `[^\x00-\xff]*`, "()()", "()|()", "(()*)*"},
		{`[\x00-\xff]`, `[\x00-a]|[b-\xff]`, `a|[^a]`},
		{"a{3,5}", "aaaa?a?", "aaa|aaaa|aaaaa", "a{1,2}a{2,3}", "aaa(a(a)?)?"},
		{"[a-c]x|[b-d]y", "ax|dy|[bc][xy]", "[b-d]y|[a-c]x"},
	}
	var leasts []api.Dfa
	for _, l := range all {
		first := least(t, parsed(t, l[0]))
		checkMeant(t, parsed(t, l[0]))
		for _, s := range l[1:] {
			checkLeast(t, parsed(t, s), first)
		}
		for i, other := range leasts {
			if same(first, other) {
				t.Errorf("%q and %q have the same least", l[0], all[i][0])
			}
		}
		leasts = append(leasts, first)
	}
}

// P9.3: as few states as can be, of expressions of which that number is known.
func TestFewest(t *testing.T) {
	for s, states := range map[string]int{
		"a{20}": 21, "(a|b)*abb": 4, "(a|b)*a(a|b){7}": 256, "[a-z]+": 2, "(aaa)*": 3, "(aaa|aaaaa)*": 9, "a|bc|dbc": 4, "(ab|cb)*": 2, "a{0,20}": 21, "(a{3}){3}|b{9}": 18,
	} {
		if m := least(t, parsed(t, s)); len(m.Next) != states {
			t.Errorf("the least of %q has %d states; want %d", s, len(m.Next), states)
		}
	}
}
