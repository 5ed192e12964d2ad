package trie_test

import (
	"fmt"
	"math/rand/v2"
	"slices"
	"strings"

	"fretsaw/api"
	"fretsaw/trie"
)

// This file holds the chapter's words once more, in other ways than the program has them, and makes the words, the texts and the tries that are tried.

const (
	mostWords  = 2048   // MaxWords
	mostToken  = 64     // MaxToken
	mostStates = 400000 // MaxTable
)

// meantRight takes the chapter's conditions one by one.
func meantRight(t api.Trie) bool {
	one := len(t.Base) == len(t.Check) && len(t.Check) == len(t.Word)
	return one && len(t.Word) > 0 && len(t.Word) <= mostStates
}

// meantKids is where one goes from a state by each byte, 0 being nowhere: all states are asked, of which it may be.
func meantKids(t api.Trie, state int) (to [256]int) {
	if t.Base[state] < -mostStates || t.Base[state] > mostStates {
		return to
	}
	for kid := 1; kid < len(t.Check); kid++ {
		if b := kid - 1 - t.Base[state]; b >= 0 && b < 256 && t.Check[kid] == state {
			to[b] = kid
		}
	}
	return to
}

// meantFind goes by tables of all kids.
func meantFind(t api.Trie, s string) int {
	if !meantRight(t) {
		return -1
	}
	state := 0
	for _, b := range []byte(s) {
		if state = meantKids(t, state)[b]; state == 0 {
			return -1
		}
	}
	if t.Word[state] < 0 {
		return -1
	}
	return t.Word[state]
}

// meantLongest asks for each text from the place on, the longest one first.
func meantLongest(t api.Trie, s string, at int) (int, int) {
	for end := len(s); at >= 0 && end >= at; end-- {
		if number := meantFind(t, s[at:end]); number >= 0 {
			return number, end
		}
	}
	return -1, -1
}

// numbers is all texts of a trie that have a number, with it, found by going everywhere: each state is reached from one other at most, so this ends.
func numbers(t api.Trie) map[string]int {
	all := map[string]int{}
	var visit func(state int, s string)
	kids := make([][]int, len(t.Base))
	for kid := 1; kid < len(t.Check); kid++ {
		if state := t.Check[kid]; state >= 0 && state < len(kids) {
			kids[state] = append(kids[state], kid)
		}
	}
	visit = func(state int, s string) {
		if t.Word[state] >= 0 {
			all[s] = t.Word[state]
		}
		for _, kid := range kids[state] {
			if b := kid - 1 - t.Base[state]; b >= 0 && b < 256 {
				visit(kid, s+string([]byte{byte(b)}))
			}
		}
	}
	visit(0, "")
	return all
}

// dice throws numbers, the same ones for the same n.
func dice(n uint64) *rand.Rand {
	return rand.New(rand.NewPCG(n, 16))
}

// text draws one of some bytes, each out of these.
func text(d *rand.Rand, bytes string, many int) string {
	s := make([]byte, many)
	for i := range s {
		s[i] = bytes[d.IntN(len(bytes))]
	}
	return string(s)
}

// allBytes is each byte once.
func allBytes() string {
	s := make([]byte, 256)
	for i := range s {
		s[i] = byte(i)
	}
	return string(s)
}

// drawn is different words of at most so many bytes, each out of these; as many as asked for, if there are so many.
func drawn(d *rand.Rand, bytes string, longest, many int) (words []string) {
	seen := map[string]bool{}
	for range 40 * many {
		if s := text(d, bytes, d.IntN(longest+1)); !seen[s] && len(words) < many {
			seen[s] = true
			words = append(words, s)
		}
	}
	return words
}

// shuffled is the same words in another order.
func shuffled(d *rand.Rand, words []string) []string {
	words = slices.Clone(words)
	d.Shuffle(len(words), func(i, j int) { words[i], words[j] = words[j], words[i] })
	return words
}

// long is a word of as many bytes as may be, with this one at its end.
func long(end string) string {
	return strings.Repeat("a", mostToken-len(end)) + end
}

// anyTrie is a small one, which may be or not: many of its states are reached, and some in more ways than one.
func anyTrie(d *rand.Rand) api.Trie {
	many := d.IntN(12)
	var t api.Trie
	for range many {
		t.Base = append(t.Base, d.IntN(many+4)-2-'a')
		t.Check = append(t.Check, d.IntN(many+2)-1)
		t.Word = append(t.Word, d.IntN(9)-4)
	}
	for kid := range many {
		for state := range many {
			if b := kid - 1 - t.Base[state]; b >= 'a' && b <= 'c' && d.IntN(2) > 0 {
				t.Check[kid] = state
				break
			}
		}
	}
	switch d.IntN(12) {
	case 0:
		t.Base = append(t.Base, 0)
	case 1:
		t.Check = append(t.Check, 0)
	case 2:
		t.Word = append(t.Word, 0)
	case 3:
		t.Word = t.Word[:many/2]
	}
	return t
}

// hollow is a trie of so many states, in which one goes nowhere, and the empty text has the number 7.
func hollow(many int) api.Trie {
	t := api.Trie{Base: make([]int, many), Check: make([]int, many), Word: make([]int, many)}
	for i := range many {
		t.Check[i] = -1
	}
	if many > 0 {
		t.Word[0] = 7
	}
	return t
}

// copied is a trie in memory of its own.
func copied(t api.Trie) api.Trie {
	return api.Trie{Base: slices.Clone(t.Base), Check: slices.Clone(t.Check), Word: slices.Clone(t.Word)}
}

// same tells whether two tries are.
func same(a, b api.Trie) bool {
	return slices.Equal(a.Base, b.Base) && slices.Equal(a.Check, b.Check) && slices.Equal(a.Word, b.Word)
}

// nothing tells whether a trie is the zero value.
func nothing(t api.Trie) bool {
	return len(t.Base) == 0 && len(t.Check) == 0 && len(t.Word) == 0
}

// show writes a list, but not all of a long one.
func show[E any](l []E) string {
	if len(l) > 12 {
		return fmt.Sprintf("%v", l[:12]) + fmt.Sprint(".. of ", len(l))
	}
	return fmt.Sprint(l)
}

func showWords(words []string) string {
	quoted := make([]string, min(len(words), 13))
	for i := range quoted {
		quoted[i] = fmt.Sprintf("%.40q", words[i])
	}
	return show(quoted)
}

func showTrie(t api.Trie) string {
	return "{Base " + show(t.Base) + " Check " + show(t.Check) + " Word " + show(t.Word) + "}"
}

// built makes a trie, whatever it is told.
func built(words ...string) api.Trie {
	t, _ := trie.Build(words)
	return t
}
