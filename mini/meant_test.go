package mini_test

import (
	"fmt"
	"slices"
	"strings"

	"fretsaw/api"
)

// This file holds the chapter's words once more, in another way than the program has them: what is reached, what is live, what is alike, and the least.

// goes is where a state goes by a byte; -1 goes nowhere.
func goes(d api.Dfa, state, b int) int {
	if state == -1 {
		return -1
	}
	return d.Next[state][d.Class[b]]
}

func accepts(d api.Dfa, state int) bool { return state != -1 && d.Accept[state] }

// until does something again and again, as long as it tells that there was something to do.
func until(more func() bool) {
	for more() {
	}
}

// meantReached marks the states to which one can come from state 0.
func meantReached(d api.Dfa) []bool {
	marks := make([]bool, len(d.Next))
	marks[0] = true
	until(func() (more bool) {
		for i := range d.Next {
			for b := range 256 {
				if next := goes(d, i, b); marks[i] && next != -1 && !marks[next] {
					marks[next], more = true, true
				}
			}
		}
		return more
	})
	return marks
}

// meantLive marks the states from which one can come to one that accepts.
func meantLive(d api.Dfa) []bool {
	marks := slices.Clone(d.Accept)
	until(func() (more bool) {
		for i := range d.Next {
			for b := range 256 {
				if next := goes(d, i, b); !marks[i] && next != -1 && marks[next] {
					marks[i], more = true, true
				}
			}
		}
		return more
	})
	return marks
}

// meantApart marks, two by two, the states that some text tells apart: by [one + 1][other + 1], so that -1 has a place.
func meantApart(d api.Dfa) [][]bool {
	n := len(d.Next)
	apart := make([][]bool, n+1)
	for i := range apart {
		apart[i] = make([]bool, n+1)
		for j := range apart[i] {
			apart[i][j] = accepts(d, i-1) != accepts(d, j-1)
		}
	}
	until(func() (more bool) {
		for i := range apart {
			for j := range i {
				for b := 0; b < 256 && !apart[i][j]; b++ {
					if apart[goes(d, i-1, b)+1][goes(d, j-1, b)+1] {
						apart[i][j], apart[j][i], more = true, true, true
					}
				}
			}
		}
		return more
	})
	return apart
}

// meantLeast makes the least by the chapter's words, one after the other.
func meantLeast(d api.Dfa) api.Dfa {
	reached, live, apart := meantReached(d), meantLive(d), meantApart(d)
	if !live[0] {
		return api.Dfa{Next: [][]int{{-1}}, Accept: []bool{false}}
	}
	// Of those that are alike the first one that counts stands for all.
	stands := func(state int) int {
		for i := range d.Next {
			if state != -1 && reached[i] && live[i] && !apart[i+1][state+1] {
				return i
			}
		}
		return -1
	}
	where := make([][256]int, len(d.Next))
	for i := range d.Next {
		for b := range 256 {
			where[i][b] = -1
			if b > 0 && d.Class[b] == d.Class[b-1] {
				where[i][b] = where[i][b-1]
			} else if stands(i) == i {
				where[i][b] = stands(goes(d, i, b))
			}
		}
	}
	class, least := meantClasses(where)
	out := api.Dfa{Class: class}
	order := []int{0}
	for n := 0; n < len(order); n++ {
		row := make([]int, len(least))
		for c, b := range least {
			to := where[order[n]][b]
			if row[c] = slices.Index(order, to); to != -1 && row[c] == -1 {
				row[c] = len(order)
				order = append(order, to)
			}
		}
		out.Next = append(out.Next, row)
		out.Accept = append(out.Accept, d.Accept[order[n]])
	}
	return out
}

// meantClasses gives each byte the class of the first one that goes to the same from everywhere, and tells the least byte of each class.
func meantClasses(where [][256]int) (class [256]uint8, least []int) {
	for b := range 256 {
		first := 0
		for slices.ContainsFunc(where, func(row [256]int) bool { return row[first] != row[b] }) {
			first++
		}
		if first == b {
			class[b] = uint8(len(least))
			least = append(least, b)
		} else {
			class[b] = class[first]
		}
	}
	return class, least
}

// meantMap goes by each byte as another one goes by what is put for it, with a class for each byte.
func meantMap(d api.Dfa, to [256]uint8) api.Dfa {
	m := plain(len(d.Next), 256)
	copy(m.Accept, d.Accept)
	for b := range 256 {
		m.Class[b] = uint8(b)
		for i := range m.Next {
			m.Next[i][b] = goes(d, i, int(to[b]))
		}
	}
	return m
}

// made is a text with to's bytes in place of its own.
func made(s string, to [256]uint8) string {
	var out strings.Builder
	for i := range len(s) {
		out.WriteByte(to[s[i]])
	}
	return out.String()
}

// takeSame tells whether two take the same texts: all of them, since each two states in which they can be at one time are looked at.
func takeSame(one, two api.Dfa) bool {
	type pair struct{ one, two int }
	waiting := []pair{{}}
	met := map[pair]bool{{}: true}
	for i := 0; i < len(waiting); i++ {
		p := waiting[i]
		if accepts(one, p.one) != accepts(two, p.two) {
			return false
		}
		for b := range 256 {
			if q := (pair{goes(one, p.one, b), goes(two, p.two, b)}); !met[q] {
				met[q] = true
				waiting = append(waiting, q)
			}
		}
	}
	return true
}

func same(one, two api.Dfa) bool {
	return one.Class == two.Class && slices.Equal(one.Accept, two.Accept) && slices.EqualFunc(one.Next, two.Next, slices.Equal[[]int])
}

func isZero(d api.Dfa) bool { return len(d.Next) == 0 && len(d.Accept) == 0 && d.Class == [256]uint8{} }

func copied(d api.Dfa) api.Dfa {
	c := api.Dfa{Class: d.Class, Accept: slices.Clone(d.Accept)}
	for _, row := range d.Next {
		c.Next = append(c.Next, slices.Clone(row))
	}
	return c
}

func show(d api.Dfa) string {
	if len(d.Next) > 12 || len(d.Next) > 0 && len(d.Next[0]) > 12 {
		return fmt.Sprintf("%d rows, the first one of %d, %d accept or not", len(d.Next), len(d.Next[0]), len(d.Accept))
	}
	return fmt.Sprint(d.Next, d.Accept, d.Class)
}
