package trie

import (
	"cmp"
	"iter"
	"slices"
	"strings"

	"fretsaw/api"
)

// word is a text with its number.
type word struct {
	text   string
	number int
}

// node is a state that has no place as yet: the words from first up to end, which go through it, share that many bytes at their beginning.
type node struct{ first, end, shared int }

// tree is words in their order, and their states, each of them behind the one that leads to it.
type tree struct {
	words []word
	nodes []node
}

// Build makes a trie of words.
func Build(words []string) (api.Trie, api.Errno) {
	if !short(words) {
		return api.Trie{}, api.ErrLong
	}
	sorted := inOrder(words)
	if twice(sorted) {
		return api.Trie{}, api.ErrTwice
	}
	g := grown(sorted)
	bases, many := settled(g)
	return g.laid(bases, many), api.OK
}

// short tells whether there are neither too many words, nor too long ones.
func short(words []string) bool {
	if len(words) > api.MaxWords {
		return false
	}
	return !slices.ContainsFunc(words, func(s string) bool { return len(s) > api.MaxToken })
}

// inOrder sorts words, with their numbers: then all that begin alike stand side by side, the shortest one first.
func inOrder(words []string) []word {
	sorted := make([]word, len(words))
	for i, s := range words {
		sorted[i] = word{s, i}
	}
	slices.SortFunc(sorted, func(a, b word) int { return strings.Compare(a.text, b.text) })
	return sorted
}

// twice tells whether a word in their order is the one ahead once more.
func twice(sorted []word) bool {
	for i := 1; i < len(sorted); i++ {
		if sorted[i].text == sorted[i-1].text {
			return true
		}
	}
	return false
}

// grown makes the tree of words in their order: the kids of a node stand side by side, behind those of all nodes ahead of it.
func grown(sorted []word) tree {
	g := tree{words: sorted, nodes: []node{{end: len(sorted)}}}
	for i := 0; i < len(g.nodes); i++ {
		for _, kid := range g.kids(g.nodes[i]) {
			g.nodes = append(g.nodes, kid)
		}
	}
	return g
}

// number is that of the word which ends at a node, or -1.
func (g tree) number(n node) int {
	if n.first < n.end && len(g.words[n.first].text) == n.shared {
		return g.words[n.first].number
	}
	return -1
}

// kids is the nodes that a node leads to, each with its byte, the least byte first.
func (g tree) kids(n node) iter.Seq2[byte, node] {
	return func(yield func(byte, node) bool) {
		first := n.first
		if g.number(n) >= 0 {
			first++
		}
		for first < n.end {
			b := g.words[first].text[n.shared]
			end := first + 1
			for end < n.end && g.words[end].text[n.shared] == b {
				end++
			}
			if !yield(b, node{first, end, n.shared + 1}) {
				return
			}
			first = end
		}
	}
}

// parents is the numbers of the nodes with kids, those with the most kids first: they find room while there is much, and single kids fill what is left between.
func (g tree) parents() []int {
	var order []int
	many := make([]int, len(g.nodes))
	for i, n := range g.nodes {
		for range g.kids(n) {
			many[i]++
		}
		if many[i] > 0 {
			order = append(order, i)
		}
	}
	slices.SortStableFunc(order, func(a, b int) int { return cmp.Compare(many[b], many[a]) })
	return order
}

// laid is the trie of a tree, of so many states, each node's kids being sent to their places by its base.
func (g tree) laid(bases []int, many int) api.Trie {
	t := api.Trie{Base: make([]int, many), Check: slices.Repeat([]int{-1}, many), Word: slices.Repeat([]int{-1}, many)}
	states := make([]int, 1, len(g.nodes)) // that of the first node is 0
	for i, n := range g.nodes {
		state := states[i]
		t.Base[state], t.Word[state] = bases[i], g.number(n)
		for b := range g.kids(n) {
			to := place(bases[i], b)
			t.Check[to] = state
			states = append(states, to)
		}
	}
	return t
}
