package piece_test

import (
	"fmt"
	"slices"
	"strings"
	"testing"

	"fretsaw/api"
	"fretsaw/dfa"
	"fretsaw/nfa"
	"fretsaw/regex"
)

// This file holds the chapter's words once more, in another way than the program has them, and makes the dfas and texts that are tried.

// meantTakes goes through the whole of one text.
func meantTakes(d api.Dfa, s string) bool {
	state := 0
	for i := range len(s) {
		if state = d.Next[state][d.Class[s[i]]]; state == -1 {
			return false
		}
	}
	return d.Accept[state]
}

// meantTexts tries, at each place, all that stands from there on, the longest first.
func meantTexts(d api.Dfa, s string) (texts []string) {
	for s != "" {
		n := len(s)
		for n > 1 && !meantTakes(d, s[:n]) {
			n--
		}
		texts = append(texts, s[:n])
		s = s[n:]
	}
	return texts
}

// meantEnds is where texts that stand one behind the other end.
func meantEnds(texts []string) (ends []int) {
	at := 0
	for _, one := range texts {
		at += len(one)
		ends = append(ends, at)
	}
	return ends
}

// spread makes numbers that look as if there were no order in them: the same ones at each run.
func spread(n uint64) uint64 {
	n += 0x9E3779B97F4A7C15
	n = (n ^ n>>30) * 0xBF58476D1CE4E5B9
	n = (n ^ n>>27) * 0x94D049BB133111EB
	return n ^ n>>31
}

// dice throws numbers, the same ones for the same n.
type dice struct{ n, at uint64 }

func (d *dice) below(n int) int {
	d.at++
	return int(spread(d.n<<24|d.at) % uint64(n))
}

func (d *dice) text(bytes string, room int) string {
	var s strings.Builder
	for range d.below(room + 1) {
		s.WriteByte(bytes[d.below(len(bytes))])
	}
	return s.String()
}

// dfa is one that may be. The more seldom states accept and ways end, the farther one goes in vain: so both are thrown, too.
func (d *dice) dfa(states, classes int) api.Dfa {
	a := plain(1+d.below(states), 1+d.below(classes))
	seldom, long := 1+d.below(6), 1+d.below(9)
	for i, row := range a.Next {
		a.Accept[i] = d.below(seldom) == 0
		for j := range row {
			if d.below(long) > 0 {
				row[j] = d.below(len(a.Next))
			}
		}
	}
	for b := range a.Class {
		a.Class[b] = uint8(d.below(len(a.Next[0])))
	}
	return a
}

// plain has so many states and classes, accepts nothing and goes nowhere.
func plain(states, classes int) api.Dfa {
	d := api.Dfa{Next: make([][]int, states), Accept: make([]bool, states)}
	for i := range d.Next {
		d.Next[i] = slices.Repeat([]int{-1}, classes)
	}
	return d
}

// lengths takes the texts of a byte `a` alone of which the length is one of these.
func lengths(l ...int) api.Dfa {
	d := plain(slices.Max(l)+1, 2)
	d.Class['a'] = 1
	for i := range len(d.Next) - 1 {
		d.Next[i][1] = i + 1
	}
	for _, n := range l {
		d.Accept[n] = true
	}
	return d
}

// ring goes on by every byte, from state to state and from the last one to the first; one state accepts.
func ring(states, accepts int) api.Dfa {
	d := plain(states, 1)
	for i := range d.Next {
		d.Next[i][0] = (i + 1) % states
	}
	d.Accept[accepts] = true
	return d
}

// single takes one byte alone, whichever is in the text.
func single(bytes string) api.Dfa {
	d := plain(2, 2)
	for i := range len(bytes) {
		d.Class[bytes[i]] = 1
	}
	d.Next[0][1], d.Accept[1] = 1, true
	return d
}

// parsed is the dfa of an expression's text.
func parsed(t *testing.T, s string) api.Dfa {
	t.Helper()
	tree, e, at := regex.Parse(s)
	if e != api.OK {
		t.Fatalf("Parse(%q) = %d, %d", s, e, at)
	}
	n, e := nfa.Build(tree)
	if e != api.OK {
		t.Fatalf("nfa.Build of %q: %d", s, e)
	}
	d, e := dfa.Build(n)
	if e != api.OK {
		t.Fatalf("dfa.Build of %q: %d", s, e)
	}
	return d
}

func copied(d api.Dfa) api.Dfa {
	c := api.Dfa{Class: d.Class, Accept: slices.Clone(d.Accept)}
	for _, row := range d.Next {
		c.Next = append(c.Next, slices.Clone(row))
	}
	return c
}

func same(one, two api.Dfa) bool {
	return one.Class == two.Class && slices.Equal(one.Accept, two.Accept) && slices.EqualFunc(one.Next, two.Next, slices.Equal[[]int])
}

func show(d api.Dfa) string {
	if len(d.Next) > 12 || len(d.Next) > 0 && len(d.Next[0]) > 12 {
		return fmt.Sprintf("%d rows, the first one of %d, %d accept or not", len(d.Next), len(d.Next[0]), len(d.Accept))
	}
	return fmt.Sprint(d.Next, d.Accept, d.Class)
}

// brief keeps a long list from filling the screen.
func brief[E any](l []E) string {
	if len(l) > 40 {
		return fmt.Sprintf("%d, the first ones %#v", len(l), l[:40])
	}
	return fmt.Sprintf("%#v", l)
}
