package tok_test

import (
	"fmt"
	"math/rand/v2"
	"slices"
	"strconv"
	"strings"
	"unsafe"

	"fretsaw/api"
	"fretsaw/config"
	"fretsaw/regex"
)

// This file holds the chapter's words once more, in other ways than the program has them, and makes the configurations, the texts and the ids that are tried.

// The limits, as the chapters tell them.
const (
	mostInput = 4096
	mostIds   = 262144
)

// meantRewritten asks every rule at every place.
func meantRewritten(l []api.Rule, s string) string {
	var out strings.Builder
	for at := 0; at < len(s); {
		from, to := s[at:at], s[at:at+1]
		for _, r := range l {
			if strings.HasPrefix(s[at:], r.From) && len(r.From) > len(from) {
				from, to = r.From, r.To
			}
		}
		out.WriteString(to)
		at += max(len(from), 1)
	}
	return out.String()
}

func meantNormal(c api.Config, s string) string {
	if len(c.Passes) == 0 {
		return s
	}
	ahead := c
	ahead.Passes = c.Passes[:len(c.Passes)-1]
	return meantRewritten(c.Passes[len(ahead.Passes)], meantNormal(ahead, s))
}

// places is a set of places in a text.
type places map[int]bool

// after is the places to which a tree takes the text from these on.
func (l places) after(t api.Re, s string) places {
	out := places{}
	for at := range l {
		for to := range meantEnds(t, s, at) {
			out[to] = true
		}
	}
	return out
}

// add tells whether any of the others is new.
func (l places) add(more places) bool {
	many := len(l)
	for at := range more {
		l[at] = true
	}
	return len(l) > many
}

// meantEnds is the places to which an expression's tree takes the text from a place on, by chapter 7's words.
func meantEnds(t api.Re, s string, at int) places {
	out := places{}
	switch t.Kind {
	case api.RSet:
		if at < len(s) && t.Set.S[s[at]/64]&(1<<(s[at]%64)) != 0 {
			out[at+1] = true
		}
	case api.RCat:
		out[at] = true
		for _, kid := range t.Kids {
			out = out.after(kid, s)
		}
	case api.RAlt:
		for _, kid := range t.Kids {
			out.add(meantEnds(kid, s, at))
		}
	case api.RRep:
		now := places{at: true}
		for range t.Min {
			now = now.after(t.Kids[0], s)
		}
		out.add(now)
		for times := t.Min; t.Max == -1 || times < t.Max; times++ {
			now = now.after(t.Kids[0], s)
			if !out.add(now) && t.Max == -1 {
				break
			}
		}
	}
	return out
}

func meantPieces(t api.Re, s string) (pieces []string) {
	for at := 0; at < len(s); {
		to := at + 1
		for end := range meantEnds(t, s, at) {
			to = max(to, end)
		}
		pieces = append(pieces, s[at:to])
		at = to
	}
	return pieces
}

// meantMerged goes through all merges and all places, again and again, till one fits.
func meantMerged(l []api.Merge, s string) []int {
	var ids []int
	for i := range len(s) {
		ids = append(ids, int(s[i]))
	}
	for again := true; again; {
		again = false
	search:
		for k, m := range l {
			for i := range ids {
				if i+1 < len(ids) && ids[i] == m.Left && ids[i+1] == m.Right {
					ids = slices.Concat(ids[:i], []int{256 + k}, ids[i+2:])
					again = true
					break search
				}
			}
		}
	}
	return ids
}

func meantTok(c api.Config, s string) (ids []int) {
	for _, n := range c.Before {
		ids = append(ids, 256+len(c.Merges)+n)
	}
	for _, piece := range meantPieces(c.Split, meantNormal(c, s)) {
		ids = append(ids, meantMerged(c.Merges, piece)...)
	}
	for _, n := range c.After {
		ids = append(ids, 256+len(c.Merges)+n)
	}
	return ids
}

// meantText opens what is not a byte, the first one first, till nothing is left.
func meantText(c api.Config, ids []int) (string, api.Errno) {
	var out []byte
	for open := slices.Clone(ids); len(open) > 0; {
		id := open[0]
		open = open[1:]
		merge := id - 256
		name := merge - len(c.Merges)
		switch {
		case id < 0 || name >= len(c.Names):
			return "", api.ErrArg
		case id < 256:
			out = append(out, byte(id))
		case merge < len(c.Merges):
			open = append([]int{c.Merges[merge].Left, c.Merges[merge].Right}, open...)
		}
	}
	return string(out), api.OK
}

// meantShown takes the library's way from bytes to characters and back.
func meantShown(s string) string { return string([]rune(s)) }

// tree reads an expression.
func tree(s string) api.Re {
	t, e, at := regex.Parse(s)
	if e != api.OK {
		panic(fmt.Sprint(s, e, at))
	}
	return t
}

// parsed reads a configuration whose lines are parted by / here; the first one is put ahead of them.
func parsed(s string) api.Config {
	c, e, at := config.Parse("fretsaw 1\n" + strings.ReplaceAll(s, "/", "\n"))
	if e != api.OK {
		panic(fmt.Sprint(s, e, at))
	}
	return c
}

// chapter is the chapter's configuration.
func chapter() api.Config {
	return parsed(`split [a-z]+/merge "a" "b"/merge "ab" "c"/name "<s>"/before "<s>"`)
}

// pairs takes Lefts and Rights in turn.
func pairs(ids ...int) (l []api.Merge) {
	for pair := range slices.Chunk(ids, 2) {
		l = append(l, api.Merge{Left: pair[0], Right: pair[1]})
	}
	return l
}

// twoByTwo is so many merges, each of two bytes.
func twoByTwo(many int) (l []api.Merge) {
	for i := range many {
		l = append(l, api.Merge{Left: i % 256, Right: i / 256})
	}
	return l
}

// doubled is merges each of which takes twice what the one ahead of it makes: of 64 bytes by six.
func doubled(b, many int) []api.Merge {
	l := pairs(b, b)
	for len(l) < many {
		l = append(l, api.Merge{Left: 255 + len(l), Right: 255 + len(l)})
	}
	return l
}

// rules takes Froms and Tos in turn.
func rules(texts ...string) (l []api.Rule) {
	for pair := range slices.Chunk(texts, 2) {
		l = append(l, api.Rule{From: pair[0], To: pair[1]})
	}
	return l
}

// numbered is so many names.
func numbered(many int) (l []string) {
	for i := range many {
		l = append(l, fmt.Sprint("n", i))
	}
	return l
}

// numberedRules is so many rules.
func numberedRules(many int) (l []api.Rule) {
	for _, name := range numbered(many) {
		l = append(l, api.Rule{From: name})
	}
	return l
}

// idsOf is the bytes of a text, as ids.
func idsOf(s string) (ids []int) {
	for i := range len(s) {
		ids = append(ids, int(s[i]))
	}
	return ids
}

// upTo is the numbers from 0 on.
func upTo(many int) (l []int) {
	for i := range many {
		l = append(l, i)
	}
	return l
}

// everything is all bytes, each once.
func everything() string {
	var all [256]byte
	for b := range all {
		all[b] = byte(b)
	}
	return string(all[:])
}

// dice throws numbers, the same ones for the same n.
func dice(n uint64) *rand.Rand { return rand.New(rand.NewPCG(n, 18)) }

// one draws one of these.
func one[E any](d *rand.Rand, l ...E) E { return l[d.IntN(len(l))] }

// signs is what is drawn of: few bytes, so that much fits, and some that are no characters alone.
const signs = "aaabbbc A\xc3\xa9\xff"

// text draws one of up to so many bytes.
func text(d *rand.Rand, room int) string {
	s := make([]byte, d.IntN(room+1))
	for i := range s {
		s[i] = signs[d.IntN(len(signs))]
		if d.IntN(20) == 0 {
			s[i] = byte(d.IntN(256))
		}
	}
	return string(s)
}

// expression draws one.
func expression(d *rand.Rand, depth int) string {
	if depth == 0 {
		return one(d, "a", "b", "c", "[ab]", "[a-z]", "[^a]", ".", "\\xc3", "[\\x80-\\xff]", "()", "[^\\x00-\\xff]")
	}
	x, y := expression(d, d.IntN(depth)), expression(d, d.IntN(depth))
	switch d.IntN(8) {
	case 0, 1:
		return x + y
	case 2, 3:
		return "(" + x + "|" + y + ")"
	case 4:
		return "(" + x + ")*"
	case 5:
		return "(" + x + ")" + one(d, "?", "+")
	case 6:
		return "(" + x + ")" + one(d, "{0}", "{2}", "{0,2}", "{1,3}", "{2,}")
	}
	return "(" + x + ")*" + y
}

func drawnRules(d *rand.Rand) (l []api.Rule) {
	for range d.IntN(5) {
		r := api.Rule{From: text(d, one(d, 1, 2, 4)), To: text(d, one(d, 0, 1, 2, 5))}
		if r.From != "" && !slices.ContainsFunc(l, func(o api.Rule) bool { return o.From == r.From }) {
			l = append(l, r)
		}
	}
	return l
}

// drawnMerges leaves out what may not stand behind those ahead.
func drawnMerges(d *rand.Rand) (l []api.Merge) {
	texts := map[string]bool{}
	bytes := one(d, "aab", "ab c", signs)
	for range d.IntN(12) {
		var m [2]int
		for i := range m {
			m[i] = int(bytes[d.IntN(len(bytes))])
			if d.IntN(3) == 0 && len(l) > 0 {
				m[i] = 256 + d.IntN(len(l))
			}
		}
		s, _ := meantText(api.Config{Merges: l}, m[:])
		if len(s) <= 64 && !texts[s] {
			texts[s] = true
			l = append(l, api.Merge{Left: m[0], Right: m[1]})
		}
	}
	return l
}

// drawn is a configuration that may be.
func drawn(d *rand.Rand) (c api.Config) {
	for range d.IntN(5) {
		c.Passes = append(c.Passes, drawnRules(d))
	}
	c.Split = tree(expression(d, d.IntN(6)))
	if d.IntN(3) == 0 {
		c.Split = tree(one(d, "[a-z]+", "[ab]+| ", "[^ ]+", "[\\x00-\\xff]{1,5}", "ab|(a|b)*c|[^a]+", " ?[a-c]+|[\\x80-\\xff]+"))
	}
	c.Merges = drawnMerges(d)
	c.Names = numbered(d.IntN(4))
	for range d.IntN(4) * min(len(c.Names), 1) {
		c.Before = append(c.Before, d.IntN(len(c.Names)))
	}
	for range d.IntN(4) * min(len(c.Names), 1) {
		c.After = append(c.After, d.IntN(len(c.Names)))
	}
	for config.Right(c) == api.ErrConfig { // too many bytes of one
		c.Passes = c.Passes[1:]
	}
	return c
}

// drawnIds is some of a configuration, most of them of few bytes.
func drawnIds(d *rand.Rand, c api.Config) (ids []int) {
	for range d.IntN(12) {
		ids = append(ids, d.IntN(256+len(c.Merges)+len(c.Names)))
		if d.IntN(2) == 0 {
			ids[len(ids)-1] = one(d, 0xC3, 0xA9, 0xE2, 0x82, 0xAC, 0xED, 0xA0, 0xF0, 0x9F, 0x98, 0x80, 0x61)
		}
	}
	return ids
}

func sameTree(a, b api.Re) bool {
	return a.Kind == b.Kind && a.Set == b.Set && a.Min == b.Min && a.Max == b.Max && slices.EqualFunc(a.Kids, b.Kids, sameTree)
}

// same tells whether two configurations are.
func same(a, b api.Config) bool {
	return slices.EqualFunc(a.Passes, b.Passes, slices.Equal) && sameTree(a.Split, b.Split) && slices.Equal(a.Merges, b.Merges) &&
		slices.Equal(a.Names, b.Names) && slices.Equal(a.Before, b.Before) && slices.Equal(a.After, b.After)
}

func copiedTree(t api.Re) api.Re {
	t.Kids = slices.Clone(t.Kids)
	for i := range t.Kids {
		t.Kids[i] = copiedTree(t.Kids[i])
	}
	return t
}

// copied is a configuration in memory of its own.
func copied(c api.Config) api.Config {
	c.Passes = slices.Clone(c.Passes)
	for i := range c.Passes {
		c.Passes[i] = slices.Clone(c.Passes[i])
	}
	c.Split = copiedTree(c.Split)
	c.Merges, c.Names = slices.Clone(c.Merges), slices.Clone(c.Names)
	c.Before, c.After = slices.Clone(c.Before), slices.Clone(c.After)
	return c
}

// span is where memory lies.
type span struct{ from, to uintptr }

// listSpan is a list's, with what stands behind it up to its capacity.
func listSpan[E any](l []E) span {
	var e E
	from := uintptr(unsafe.Pointer(unsafe.SliceData(l)))
	return span{from, from + uintptr(cap(l))*unsafe.Sizeof(e)}
}

func textSpan(s string) span {
	from := uintptr(unsafe.Pointer(unsafe.StringData(s)))
	return span{from, from + uintptr(len(s))}
}

// spans is those of a configuration's lists and texts.
func spans(c api.Config) []span {
	l := []span{listSpan(c.Merges), listSpan(c.Names), listSpan(c.Before), listSpan(c.After)}
	for _, pass := range c.Passes {
		for _, r := range pass {
			l = append(l, textSpan(r.From), textSpan(r.To))
		}
	}
	for _, name := range c.Names {
		l = append(l, textSpan(name))
	}
	return l
}

// meets tells whether two lie in the same memory.
func (s span) meets(other span) bool {
	return s.from < other.to && other.from < s.to
}

// show writes anything, but not all of what is long.
func show(x any) string {
	s := strconv.QuoteToASCII(fmt.Sprint(x))
	if len(s) > 400 {
		return s[:400] + ".."
	}
	return s
}
