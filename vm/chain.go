package vm

import (
	"fretsaw/api"
	"fretsaw/hash"
)

const none = -1 // no place: the first sign, at 0, has none before it

// link is a sign in a linked list. Its place is where it, or the first of those it was merged of, stood in the list at first, so that places rise along the chain.
type link struct {
	sign          int
	before, after int    // where its neighbours are: none, if there is none
	pair          uint64 // what Pairs tell of it and the one after it
	paired        bool   // whether they tell anything
}

// chain is signs that are being merged. Pairs that are not there any more stay in the pile till their turn comes.
type chain struct {
	pairs api.Hash
	signs int // each sign is below it
	links []link
	many  int // signs that are left
	pile  pile
}

// merge merges signs till no pair is left; false: one becomes what is no sign.
func (c *chain) merge(l []int) bool {
	c.fill(l)
	for len(c.pile) > 0 {
		w := c.pile.take()
		at := w.at()
		if !c.links[at].paired || w != waitOf(c.links[at].pair, at) { // one of the two has become another sign's part meanwhile
			continue
		}
		if !c.join(at) {
			return false
		}
	}
	return true
}

// fill begins with a list of signs. Nothing of an earlier one stays.
func (c *chain) fill(l []int) {
	c.links, c.pile, c.many = c.links[:0], c.pile[:0], len(l)
	for at, sign := range l {
		c.links = append(c.links, link{sign: sign, before: at - 1, after: at + 1})
	}
	if len(l) > 0 {
		c.links[len(l)-1].after = none
	}
	for at := range c.links {
		c.look(at)
	}
}

// look finds what Pairs tell of a sign and the one after it.
func (c *chain) look(at int) {
	s := &c.links[at]
	s.paired = false
	if s.after == none {
		return
	}
	s.pair, s.paired = hash.Get(c.pairs, uint64(s.sign)<<32+uint64(c.links[s.after].sign))
	if s.paired {
		c.pile.put(waitOf(s.pair, at))
	}
}

// join makes one sign of two, if it is one.
func (c *chain) join(at int) bool {
	s := &c.links[at]
	becomes := s.pair % (1 << 32)
	if becomes >= uint64(c.signs) {
		return false
	}
	gone := &c.links[s.after]
	s.sign, s.after = int(becomes), gone.after
	gone.paired = false
	c.many--
	if s.after != none {
		c.links[s.after].before = at
	}
	c.look(at)
	if s.before != none {
		c.look(s.before)
	}
	return true
}

// left is a list with the signs that are left behind it.
func (c *chain) left(l []int) []int {
	if len(c.links) == 0 {
		return l
	}
	for at := 0; at != none; at = c.links[at].after {
		l = append(l, c.links[at].sign)
	}
	return l
}
