package mini

import "fretsaw/api"

// dead is the part of what is not live. It is the first one, since none stands ahead of all states, and nothing is taken from there.
const dead = 0

// sight is what can be seen of a state: the part in which it is, and the parts to which it goes by each byte. Parts are few, so that 16 bits are enough for one, and keep what is compared short.
type sight struct {
	is   int16
	goes [all]int16
}

// partsOf puts states that are alike into one part. None, to which one goes where there is no way on, is parted with them as if it were a state: so those that are not live are alike to it.
func partsOf(d api.Dfa) []int {
	parts := make([]int, 1+len(d.Next))
	for state, accepts := range d.Accept {
		if accepts {
			parts[1+state] = 1
		}
	}
	for had := 0; ; {
		finer, n := partAgain(d, parts)
		if n == had {
			return finer
		}
		parts, had = finer, n
	}
}

// partOf is the part of a state, or of none.
func partOf(parts []int, state int) int { return parts[1+state] }

// partAgain parts those that were in one part, but go to different ones, and tells how many parts there are. That number only grows, so that parting comes to an end.
func partAgain(d api.Dfa, parts []int) ([]int, int) {
	finer := make([]int, len(parts))
	numbers := map[sight]int{}
	for state := none; state < len(d.Next); state++ {
		finer[1+state] = number(numbers, look(d, parts, state))
	}
	return finer, len(numbers)
}

// look sees a state as far as states are parted yet. It goes by bytes, since a class that no byte has parts nothing.
func look(d api.Dfa, parts []int, state int) sight {
	seen := sight{is: int16(partOf(parts, state))}
	for b, class := range d.Class {
		next := none
		if state != none {
			next = d.Next[state][class]
		}
		seen.goes[b] = int16(partOf(parts, next))
	}
	return seen
}

// number is the number that is kept for what was seen: from 0 on, as it is seen first.
func number[K comparable](numbers map[K]int, seen K) int {
	n, found := numbers[seen]
	if !found {
		n = len(numbers)
		numbers[seen] = n
	}
	return n
}
