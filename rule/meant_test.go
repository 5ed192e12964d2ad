package rule_test

import (
	"slices"
	"strings"

	"fretsaw/api"
)

// This file holds the chapter's words once more, in other ways than the program has them, and makes the rules and texts that are tried.

// meantRight looks at each rule, and at each two of them.
func meantRight(l []api.Rule) api.Errno {
	if len(l) > 64 {
		return api.ErrLong
	}
	for i, r := range l {
		if len(r.From) < 1 || len(r.From) > 16 || len(r.To) > 32 {
			return api.ErrRule
		}
		for _, other := range l[:i] {
			if r.From == other.From {
				return api.ErrRule
			}
		}
	}
	return api.OK
}

// meantGrow seeks the least number that is enough for each rule.
func meantGrow(l []api.Rule) int {
	n := 1
	for slices.ContainsFunc(l, func(r api.Rule) bool { return n*len(r.From) < len(r.To) }) {
		n++
	}
	return n
}

// meantApply asks every rule at every place.
func meantApply(l []api.Rule, s string) string {
	out := ""
	for at := 0; at < len(s); {
		from, to := "", s[at:at+1]
		for _, r := range l {
			if strings.HasPrefix(s[at:], r.From) && len(r.From) > len(from) {
				from, to = r.From, r.To
			}
		}
		out += to
		at += max(len(from), 1)
	}
	return out
}

// replaced is what the library's replacer makes, which takes the first of its pairs that fits: so the longest stand first.
func replaced(l []api.Rule, s string) string {
	l = slices.SortedFunc(slices.Values(l), func(a, b api.Rule) int { return len(b.From) - len(a.From) })
	var pairs []string
	for _, r := range l {
		pairs = append(pairs, r.From, r.To)
	}
	return strings.NewReplacer(pairs...).Replace(s)
}

// spread makes numbers that look as if there were no order in them: the same ones at each run.
func spread(n uint64) uint64 {
	n += 0x9E3779B97F4A7C15
	n = (n ^ n>>30) * 0xBF58476D1CE4E5B9
	n = (n ^ n>>27) * 0x94D049BB133111EB
	return n ^ n>>31
}

// dice throws numbers, the same ones for the same n.
type dice struct{ n, at uint64 }

func (d *dice) below(n int) int {
	d.at++
	return int(spread(d.n<<24|d.at) % uint64(n))
}

func (d *dice) text(bytes string, room int) string {
	var s strings.Builder
	for range d.below(room + 1) {
		s.WriteByte(bytes[d.below(len(bytes))])
	}
	return s.String()
}

// rules is some that may be, of these bytes.
func (d *dice) rules(bytes string, many, from, to int) (l []api.Rule) {
	for range d.below(many + 1) {
		r := api.Rule{From: d.text(bytes, from), To: d.text(bytes, to)}
		if r.From != "" && !slices.ContainsFunc(l, func(o api.Rule) bool { return o.From == r.From }) {
			l = append(l, r)
		}
	}
	return l
}

// mixed is the same rules in another order.
func (d *dice) mixed(l []api.Rule) []api.Rule {
	l = slices.Clone(l)
	for i := range l {
		j := i + d.below(len(l)-i)
		l[i], l[j] = l[j], l[i]
	}
	return l
}

// rules takes Froms and Tos in turn.
func rules(pairs ...string) (l []api.Rule) {
	for pair := range slices.Chunk(pairs, 2) {
		l = append(l, api.Rule{From: pair[0], To: pair[1]})
	}
	return l
}

// numbered is as many rules as are asked for, each From of two bytes.
func numbered(many int) (l []api.Rule) {
	for i := range many {
		l = append(l, api.Rule{From: string([]byte{byte(i), byte(i >> 8)}), To: string([]byte{byte(255 - i)})})
	}
	return l
}

// everything is all bytes, each once.
func everything() string {
	var all [256]byte
	for b := range all {
		all[b] = byte(b)
	}
	return string(all[:])
}

// small is every text of at most this many bytes of a and b.
func small(room int) (texts []string) {
	for n := range room + 1 {
		for bits := range 1 << n {
			s := []byte(strings.Repeat("a", n))
			for i := range s {
				s[i] += byte(bits >> i & 1)
			}
			texts = append(texts, string(s))
		}
	}
	return texts
}
