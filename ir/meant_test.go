package ir_test

import (
	"fmt"
	"math/rand/v2"
	"slices"
	"strconv"
	"strings"

	"fretsaw/api"
	"fretsaw/config"
	"fretsaw/dfa"
	"fretsaw/nfa"
	"fretsaw/regex"
)

// This file holds the chapters' words once more, in other ways than the program has them, and makes the stages, the configurations and the texts that are tried.

// The limits, as the chapters tell them.
const (
	mostInput = 4096
	mostText  = 262144
)

// meantRight looks at the kinds first, and then at what each one needs.
func meantRight(g []api.Stage) bool {
	var kinds []int
	for _, s := range g {
		kinds = append(kinds, s.Kind)
	}
	for maps := range 5 {
		if slices.Equal(kinds, append(slices.Repeat([]int{1}, maps), 2, 3, 4)) {
			return !slices.ContainsFunc(g, func(s api.Stage) bool { return !meantMay(s) })
		}
	}
	return false
}

func meantMay(s api.Stage) bool {
	switch s.Kind {
	case 1:
		return meantMachine(s.Machine)
	case 2:
		return meantDfa(s.Dfa)
	case 3:
		return meantMerges(s.Merges) && meantDrop(s.Drop, len(s.Merges))
	}
	return meantFrame(s.Before) && meantFrame(s.After)
}

func meantMachine(m api.Machine) bool {
	n := len(m.Next)
	if n < 1 || n > 1200 || len(m.Put) != n || len(m.End) != n || len(m.Texts) > 4096 {
		return false
	}
	for _, s := range m.Texts {
		if len(s) > 4096 {
			return false
		}
	}
	for i := range n {
		if len(m.Next[i]) != 256 || len(m.Put[i]) != 256 || m.End[i] < 0 || m.End[i] > len(m.Texts)-1 {
			return false
		}
		for b := range 256 {
			if m.Next[i][b] < 0 || m.Next[i][b] > n-1 || m.Put[i][b] < 0 || m.Put[i][b] > 2*len(m.Texts)-1 {
				return false
			}
		}
	}
	return true
}

func meantDfa(d api.Dfa) bool {
	n := len(d.Next)
	if n < 1 || n > 400 || len(d.Accept) != n || len(d.Next[0]) < 1 || len(d.Next[0]) > 256 {
		return false
	}
	for _, row := range d.Next {
		if len(row) != len(d.Next[0]) || slices.Min(row) < -1 || slices.Max(row) > n-1 {
			return false
		}
	}
	return int(slices.Max(d.Class[:])) < len(d.Next[0])
}

func meantMerges(l []api.Merge) bool {
	if len(l) > 1024 {
		return false
	}
	texts := []string{}
	for b := range 256 {
		texts = append(texts, string([]byte{byte(b)}))
	}
	for k, m := range l {
		if m.Left < 0 || m.Left > 255+k || m.Right < 0 || m.Right > 255+k {
			return false
		}
		s := texts[m.Left] + texts[m.Right]
		if len(s) > 64 || slices.Contains(texts, s) {
			return false
		}
		texts = append(texts, s)
	}
	return true
}

func meantDrop(l []int, merges int) bool {
	for i, k := range l {
		if k < 0 || k > merges-1 || i > 0 && k <= l[i-1] {
			return false
		}
	}
	return true
}

func meantFrame(l []int) bool {
	return len(l) <= 32 && (len(l) == 0 || slices.Min(l) >= 0 && slices.Max(l) <= 65535)
}

// meantTold is what stages tell of a text.
func meantTold(g []api.Stage, s string) ([]int, api.Errno) {
	if !meantRight(g) {
		return nil, api.ErrGraph
	}
	if len(s) > mostInput {
		return nil, api.ErrLong
	}
	maps := len(g) - 3
	for _, stage := range g[:maps] {
		if s = meantPut(stage.Machine, s); len(s) > mostText {
			return nil, api.ErrLong
		}
	}
	split, merge, frame := g[maps], g[maps+1], g[maps+2]
	var ids []int
	for _, piece := range meantPieces(split.Dfa, meantMapped(split.Map, s)) {
		ids = append(ids, meantMerged(merge.Merges, merge.Drop, piece)...)
	}
	return append(append(slices.Clone(frame.Before), ids...), frame.After...), api.OK
}

// meantPut lists what a machine puts.
func meantPut(m api.Machine, s string) string {
	var parts []string
	state := 0
	for _, b := range []byte(s) {
		v := m.Put[state][b]
		parts = append(parts, m.Texts[(v-v%2)/2], strings.Repeat(string([]byte{b}), v%2))
		state = m.Next[state][b]
	}
	return strings.Join(append(parts, m.Texts[m.End[state]]), "")
}

func meantMapped(to [256]uint8, s string) string {
	out := ""
	for _, b := range []byte(s) {
		out += string([]byte{to[b]})
	}
	return out
}

// meantTakes goes through the whole of one text.
func meantTakes(d api.Dfa, s string) bool {
	state := 0
	for _, b := range []byte(s) {
		if state = d.Next[state][d.Class[b]]; state == -1 {
			return false
		}
	}
	return d.Accept[state]
}

// meantPieces tries, at each place, all that stands from there on, the longest first.
func meantPieces(d api.Dfa, s string) (pieces []string) {
	for s != "" {
		n := len(s)
		for n > 1 && !meantTakes(d, s[:n]) {
			n--
		}
		pieces = append(pieces, s[:n])
		s = s[n:]
	}
	return pieces
}

// meantMerged goes through all merges that are not dropped and all places, again and again, till one fits.
func meantMerged(l []api.Merge, drop []int, s string) []int {
	ids := idsOf(s)
	for again := true; again; {
		again = false
	search:
		for k, m := range l {
			for i := range ids {
				if i+1 < len(ids) && ids[i] == m.Left && ids[i+1] == m.Right && !slices.Contains(drop, k) {
					ids = slices.Concat(ids[:i], []int{256 + k}, ids[i+2:])
					again = true
					break search
				}
			}
		}
	}
	return ids
}

// row is stages with these machines, of words of small letters, two merges and a frame.
func row(machines ...api.Machine) (g []api.Stage) {
	for _, m := range machines {
		g = append(g, api.Stage{Kind: api.SMap, Machine: m})
	}
	return append(g,
		api.Stage{Kind: api.SSplit, Dfa: automaton("[a-z]+"), Map: plainMap()},
		api.Stage{Kind: api.SMerge, Merges: pairs('a', 'b', 256, 'c')},
		api.Stage{Kind: api.SFrame, Before: []int{1000}, After: []int{2000, 2001}})
}

// bare is stages with these machines that tell just the bytes that they put.
func bare(machines ...api.Machine) []api.Stage {
	g := row(machines...)
	n := len(g)
	g[n-3].Dfa = automaton("[\\x00-\\xff]*")
	g[n-2].Merges = nil
	g[n-1].Before, g[n-1].After = nil, nil
	return g
}

// of is stages with one of them changed: that many ahead of the last one.
func of(g []api.Stage, behind int, change func(s *api.Stage)) []api.Stage {
	g = slices.Clone(g)
	change(&g[len(g)-1-behind])
	return g
}

// How many stages ahead of the last one these are.
const (
	theFrame = 0
	theMerge = 1
	theSplit = 2
)

// plainMap has each byte itself.
func plainMap() (to [256]uint8) {
	for b := range to {
		to[b] = uint8(b)
	}
	return to
}

// plainMachine has so many states, goes to state 0 always, and puts each byte itself, and nothing at the end.
func plainMachine(states int) api.Machine {
	m := api.Machine{End: make([]int, states), Texts: []string{""}}
	for range states {
		m.Next = append(m.Next, make([]int, 256))
		m.Put = append(m.Put, slices.Repeat([]int{1}, 256))
	}
	return m
}

// always puts the same text at each byte, the byte itself behind it or not, and another one at the end.
func always(each string, self int, end string) api.Machine {
	return api.Machine{Next: [][]int{make([]int, 256)}, Put: [][]int{slices.Repeat([]int{self}, 256)}, End: []int{1}, Texts: []string{each, end}}
}

// times puts each byte that many times, and so much at the end.
func times(many, end int) api.Machine {
	m := plainMachine(1)
	m.Texts = append(m.Texts, strings.Repeat("e", end))
	m.End[0] = 1
	for b := range 256 {
		m.Texts = append(m.Texts, strings.Repeat(string([]byte{byte(b)}), many))
		m.Put[0][b] = 2 * (b + 2)
	}
	return m
}

// count goes round through so many states, puts nothing but at the end, and there as many bytes as the number of the state in which it is.
func count(states int) api.Machine {
	m := plainMachine(states)
	for i := range states {
		m.Next[i] = slices.Repeat([]int{(i + 1) % states}, 256)
		m.Put[i] = make([]int, 256)
		m.Texts = append(m.Texts, strings.Repeat("n", i))
		m.End[i] = i + 1
	}
	return m
}

// instead puts one byte in place of another one.
func instead(from, to byte) api.Machine {
	m := plainMachine(1)
	m.Texts = append(m.Texts, string([]byte{to}))
	m.Put[0][from] = 2
	return m
}

// plainDfa has so many states and classes, accepts nothing and goes nowhere.
func plainDfa(states, classes int) api.Dfa {
	d := api.Dfa{Next: make([][]int, states), Accept: make([]bool, states)}
	for i := range d.Next {
		d.Next[i] = slices.Repeat([]int{-1}, classes)
	}
	return d
}

// tree reads an expression.
func tree(s string) api.Re {
	t, e, at := regex.Parse(s)
	if e != api.OK {
		panic(fmt.Sprint(s, e, at))
	}
	return t
}

// automaton is an expression's.
func automaton(s string) api.Dfa {
	n, e := nfa.Build(tree(s))
	if e != api.OK {
		panic(fmt.Sprint(s, e))
	}
	d, e := dfa.Build(n)
	if e != api.OK {
		panic(fmt.Sprint(s, e))
	}
	return d
}

// parsed reads a configuration whose lines are parted by / here; the first one is put ahead of them.
func parsed(s string) api.Config {
	c, e, at := config.Parse("fretsaw 1\n" + strings.ReplaceAll(s, "/", "\n"))
	if e != api.OK {
		panic(fmt.Sprint(s, e, at))
	}
	return c
}

// pairs takes Lefts and Rights in turn.
func pairs(ids ...int) (l []api.Merge) {
	for pair := range slices.Chunk(ids, 2) {
		l = append(l, api.Merge{Left: pair[0], Right: pair[1]})
	}
	return l
}

// twoByTwo is so many merges, each of two bytes.
func twoByTwo(many int) (l []api.Merge) {
	for i := range many {
		l = append(l, api.Merge{Left: i % 256, Right: i / 256})
	}
	return l
}

// doubled is merges each of which takes twice what the one ahead of it makes: of 64 bytes by six.
func doubled(b, many int) []api.Merge {
	l := pairs(b, b)
	for len(l) < many {
		l = append(l, api.Merge{Left: 255 + len(l), Right: 255 + len(l)})
	}
	return l
}

// rules takes Froms and Tos in turn.
func rules(texts ...string) (l []api.Rule) {
	for pair := range slices.Chunk(texts, 2) {
		l = append(l, api.Rule{From: pair[0], To: pair[1]})
	}
	return l
}

// numbered is so many names.
func numbered(many int) (l []string) {
	for i := range many {
		l = append(l, fmt.Sprint("n", i))
	}
	return l
}

// idsOf is the bytes of a text, as ids.
func idsOf(s string) (ids []int) {
	for i := range len(s) {
		ids = append(ids, int(s[i]))
	}
	return ids
}

// upTo is the numbers from 0 on.
func upTo(many int) (l []int) {
	for i := range many {
		l = append(l, i)
	}
	return l
}

// everything is all bytes, each once.
func everything() string {
	var all [256]byte
	for b := range all {
		all[b] = byte(b)
	}
	return string(all[:])
}

// dice throws numbers, the same ones for the same n.
func dice(n uint64) *rand.Rand { return rand.New(rand.NewPCG(n, 19)) }

// one draws one of these.
func one[E any](d *rand.Rand, l ...E) E { return l[d.IntN(len(l))] }

// signs is what is drawn of: few bytes, so that much fits, and some that are no characters alone.
const signs = "aaabbbc A\xc3\xa9\xff"

// text draws one of up to so many bytes.
func text(d *rand.Rand, room int) string {
	s := make([]byte, d.IntN(room+1))
	for i := range s {
		s[i] = signs[d.IntN(len(signs))]
		if d.IntN(20) == 0 {
			s[i] = byte(d.IntN(256))
		}
	}
	return string(s)
}

// expression draws one.
func expression(d *rand.Rand, depth int) string {
	if depth == 0 {
		return one(d, "a", "b", "c", "[ab]", "[a-z]", "[^a]", ".", "\\xc3", "[\\x80-\\xff]", "()", "[^\\x00-\\xff]")
	}
	x, y := expression(d, d.IntN(depth)), expression(d, d.IntN(depth))
	switch d.IntN(8) {
	case 0, 1:
		return x + y
	case 2, 3:
		return "(" + x + "|" + y + ")"
	case 4:
		return "(" + x + ")*"
	case 5:
		return "(" + x + ")" + one(d, "?", "+")
	case 6:
		return "(" + x + ")" + one(d, "{0}", "{2}", "{0,2}", "{1,3}", "{2,}")
	}
	return "(" + x + ")*" + y
}

func drawnRules(d *rand.Rand) (l []api.Rule) {
	for range d.IntN(5) {
		r := api.Rule{From: text(d, one(d, 1, 2, 4)), To: text(d, one(d, 0, 1, 2, 5))}
		if r.From != "" && !slices.ContainsFunc(l, func(o api.Rule) bool { return o.From == r.From }) {
			l = append(l, r)
		}
	}
	return l
}

// drawnMerges leaves out what may not stand behind those ahead.
func drawnMerges(d *rand.Rand) (l []api.Merge) {
	bytes := one(d, "aab", "ab c", signs)
	for range d.IntN(12) {
		var m [2]int
		for i := range m {
			m[i] = int(bytes[d.IntN(len(bytes))])
			if d.IntN(3) == 0 && len(l) > 0 {
				m[i] = 256 + d.IntN(len(l))
			}
		}
		if more := append(l, api.Merge{Left: m[0], Right: m[1]}); meantMerges(more) {
			l = more
		}
	}
	return l
}

// drawnMachine is one that may be, of few states. What it does at most bytes is often the same.
func drawnMachine(d *rand.Rand) api.Machine {
	m := plainMachine(1 + d.IntN(4))
	for range d.IntN(6) {
		m.Texts = append(m.Texts, text(d, 3))
	}
	seldom := 1 + d.IntN(4)
	for i := range m.Next {
		to, put := d.IntN(len(m.Next)), d.IntN(2*len(m.Texts))
		for b := range 256 {
			m.Next[i][b], m.Put[i][b] = to, put
			if d.IntN(seldom) == 0 || strings.IndexByte(signs, byte(b)) >= 0 {
				m.Next[i][b], m.Put[i][b] = d.IntN(len(m.Next)), one(d, 1, 1, d.IntN(2*len(m.Texts)))
			}
		}
		m.End[i] = d.IntN(len(m.Texts))
	}
	return m
}

// drawnDfa is one that may be. The more seldom states accept and ways end, the farther one goes in vain: so both are drawn, too.
func drawnDfa(d *rand.Rand) api.Dfa {
	a := plainDfa(1+d.IntN(6), 1+d.IntN(4))
	seldom, long := 1+d.IntN(6), 1+d.IntN(9)
	for i, row := range a.Next {
		a.Accept[i] = d.IntN(seldom) == 0
		for j := range row {
			if d.IntN(long) > 0 {
				row[j] = d.IntN(len(a.Next))
			}
		}
	}
	for b := range a.Class {
		a.Class[b] = uint8(d.IntN(len(a.Next[0])))
	}
	return a
}

// drawnMap has other bytes for some, mostly for those that are drawn.
func drawnMap(d *rand.Rand) [256]uint8 {
	to := plainMap()
	for range d.IntN(6) {
		to[signs[d.IntN(len(signs))]] = signs[d.IntN(len(signs))]
	}
	for range d.IntN(3) {
		to[d.IntN(256)] = uint8(d.IntN(256))
	}
	return to
}

func drawnFrame(d *rand.Rand) (l []int) {
	for range d.IntN(4) {
		l = append(l, d.IntN(65536))
	}
	return l
}

// drawnStages fit. The fewer machines, the more is left to be merged.
func drawnStages(d *rand.Rand) (g []api.Stage) {
	for range one(d, 0, 0, 0, 1, 2, 3, 4) {
		g = append(g, api.Stage{Kind: api.SMap, Machine: drawnMachine(d)})
	}
	split := api.Stage{Kind: api.SSplit, Dfa: drawnDfa(d), Map: drawnMap(d)}
	if d.IntN(3) == 0 {
		split.Dfa = automaton(one(d, "[a-z]+", "[ab]+| ", "[^ ]+", "[\\x00-\\xff]{1,5}", "ab|(a|b)*c|[^a]+", " ?[a-c]+|[\\x80-\\xff]+"))
	}
	merge := api.Stage{Kind: api.SMerge, Merges: drawnMerges(d)}
	for k := range merge.Merges {
		if d.IntN(4) == 0 {
			merge.Drop = append(merge.Drop, k)
		}
	}
	return append(g, split, merge, api.Stage{Kind: api.SFrame, Before: drawnFrame(d), After: drawnFrame(d)})
}

// drawn is a configuration that may be.
func drawn(d *rand.Rand) (c api.Config) {
	for range d.IntN(5) {
		c.Passes = append(c.Passes, drawnRules(d))
	}
	c.Split = tree(expression(d, d.IntN(6)))
	if d.IntN(3) == 0 {
		c.Split = tree(one(d, "[a-z]+", "[ab]+| ", "[^ ]+", "[\\x00-\\xff]{1,5}", "ab|(a|b)*c|[^a]+", " ?[a-c]+|[\\x80-\\xff]+"))
	}
	c.Merges = drawnMerges(d)
	c.Names = numbered(d.IntN(4))
	for range d.IntN(4) * min(len(c.Names), 1) {
		c.Before = append(c.Before, d.IntN(len(c.Names)))
	}
	for range d.IntN(4) * min(len(c.Names), 1) {
		c.After = append(c.After, d.IntN(len(c.Names)))
	}
	for config.Right(c) == api.ErrConfig { // too many bytes of one
		c.Passes = c.Passes[1:]
	}
	return c
}

// show writes anything, but not all of what is long.
func show(x any) string {
	s := strconv.QuoteToASCII(fmt.Sprint(x))
	if len(s) > 400 {
		return s[:400] + ".."
	}
	return s
}

// showStages tells of stages as much as a line can hold.
func showStages(g []api.Stage) string {
	var l []string
	for _, s := range g {
		switch s.Kind {
		case api.SMap:
			l = append(l, fmt.Sprintf("map of %d states, texts %.60q", len(s.Machine.Next), s.Machine.Texts))
		case api.SSplit:
			l = append(l, fmt.Sprintf("split of %d states", len(s.Dfa.Next)))
		case api.SMerge:
			l = append(l, fmt.Sprintf("merge %.60s without %.60s", fmt.Sprint(s.Merges), fmt.Sprint(s.Drop)))
		case api.SFrame:
			l = append(l, fmt.Sprintf("frame %.60s %.60s", fmt.Sprint(s.Before), fmt.Sprint(s.After)))
		default:
			l = append(l, fmt.Sprint("kind ", s.Kind))
		}
	}
	return strings.Join(l, "; ")
}
