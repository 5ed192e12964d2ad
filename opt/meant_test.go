package opt_test

import (
	"fmt"
	"math/rand/v2"
	"slices"
	"strconv"
	"strings"
	"testing"

	"fretsaw/api"
	"fretsaw/config"
	"fretsaw/dfa"
	"fretsaw/ir"
	"fretsaw/mini"
	"fretsaw/nfa"
	"fretsaw/opt"
	"fretsaw/regex"
	"fretsaw/trans"
)

// This file holds the chapter's words once more, in other ways than the program has them, and makes the stages and the texts that are tried.

// meantRun goes from stages to stages, one change after the other.
func meantRun(g []api.Stage, passes int) []api.Stage {
	g = clean(g)
	for _, one := range []struct {
		bit    int
		change func(g []api.Stage) ([]api.Stage, bool) // false: there is nothing left to be done
	}{{1, meantFuse}, {2, meantEmpty}, {4, meantBytes}, {8, meantLeast}, {16, meantDead}} {
		for more := passes/one.bit%2 == 1; more; {
			g, more = one.change(g)
		}
	}
	return g
}

// clean leaves out of stages what their kinds do not need.
func clean(g []api.Stage) (l []api.Stage) {
	for _, s := range g {
		switch s.Kind {
		case 1:
			l = append(l, api.Stage{Kind: 1, Machine: s.Machine})
		case 2:
			l = append(l, api.Stage{Kind: 2, Dfa: s.Dfa, Map: s.Map})
		case 3:
			l = append(l, api.Stage{Kind: 3, Merges: s.Merges, Drop: s.Drop})
		case 4:
			l = append(l, api.Stage{Kind: 4, Before: s.Before, After: s.After})
		}
	}
	return l
}

// meantFuse does it to the first two of which it can be done.
func meantFuse(g []api.Stage) ([]api.Stage, bool) {
	for i := range len(g) - 4 {
		if m, e := trans.Then(g[i].Machine, g[i+1].Machine); e == api.OK {
			return slices.Concat(g[:i], []api.Stage{{Kind: 1, Machine: m}}, g[i+2:]), true
		}
	}
	return g, false
}

// meantEmpty leaves the last one out that puts each byte itself.
func meantEmpty(g []api.Stage) ([]api.Stage, bool) {
	for i := len(g) - 4; i >= 0; i-- {
		if to, is := meantSingle(g[i].Machine); is && to == plainMap() {
			return slices.Concat(g[:i], g[i+1:]), true
		}
	}
	return g, false
}

func meantBytes(g []api.Stage) ([]api.Stage, bool) {
	last := len(g) - 4
	if last < 0 {
		return g, false
	}
	to, is := meantSingle(g[last].Machine)
	if !is {
		return g, false
	}
	split := g[last+1]
	had := split.Map
	for b := range 256 {
		split.Map[b] = had[to[b]]
	}
	return slices.Concat(g[:last], []api.Stage{split}, g[last+2:]), true
}

func meantLeast(g []api.Stage) ([]api.Stage, bool) {
	g = slices.Clone(g)
	s := &g[len(g)-3]
	s.Dfa, _ = mini.Least(s.Dfa)
	return g, false
}

func meantDead(g []api.Stage) ([]api.Stage, bool) {
	live := meantLive(g)
	g = slices.Clone(g)
	s := &g[len(g)-2]
	drop := slices.Clone(s.Drop)
	for k, m := range s.Merges {
		if !live[m.Left] || !live[m.Right] {
			drop = append(drop, k)
		}
	}
	slices.Sort(drop)
	s.Drop = slices.Compact(drop)
	return g, false
}

// meantLive goes through all merges again and again, till there is none that makes a new one.
func meantLive(g []api.Stage) map[int]bool {
	split, merge := g[len(g)-3], g[len(g)-2]
	live := map[int]bool{}
	for b := range meantComes(g) {
		live[int(split.Map[b])] = true
	}
	for more := true; more; {
		more = false
		for k, m := range merge.Merges {
			if !slices.Contains(merge.Drop, k) && live[m.Left] && live[m.Right] && !live[256+k] {
				live[256+k], more = true, true
			}
		}
	}
	return live
}

// meantComes is the bytes that may come to the splitter.
func meantComes(g []api.Stage) map[byte]bool {
	comes := map[byte]bool{}
	if len(g) == 3 {
		for b := range 256 {
			comes[byte(b)] = true
		}
		return comes
	}
	m := g[len(g)-4].Machine
	for state := range m.Put {
		for b := range 256 {
			for _, c := range []byte(meantPut(m, state, b)) {
				comes[c] = true
			}
		}
		for _, c := range []byte(m.Texts[m.End[state]]) {
			comes[c] = true
		}
	}
	return comes
}

// meantPut is what is put at one byte.
func meantPut(m api.Machine, state, b int) string {
	v := m.Put[state][b]
	return m.Texts[(v-v%2)/2] + strings.Repeat(string([]byte{byte(b)}), v%2)
}

// meantSingle is what chapter 12 says of trans.Bytes.
func meantSingle(m api.Machine) (to [256]uint8, is bool) {
	for state := range meantReached(m) {
		if m.Texts[m.End[state]] != "" {
			return [256]uint8{}, false
		}
		for b := range 256 {
			s := meantPut(m, state, b)
			if len(s) != 1 || s != meantPut(m, 0, b) {
				return [256]uint8{}, false
			}
			to[b] = s[0]
		}
	}
	return to, true
}

func meantReached(m api.Machine) map[int]bool {
	is := map[int]bool{0: true}
	for more := -1; more != len(is); {
		more = len(is)
		for state := range m.Next {
			if is[state] {
				for _, to := range m.Next[state] {
					is[to] = true
				}
			}
		}
	}
	return is
}

// checkRun asks for stages, and that they are what the chapter's words make of those that were given.
func checkRun(t *testing.T, g []api.Stage, passes int) []api.Stage {
	t.Helper()
	want := meantRun(g, passes)
	got, e := opt.Run(g, passes)
	if e != api.OK || !slices.EqualFunc(got, want, sameStage) {
		t.Errorf("Run(%s, %d) = %s, %d; want %s", showStages(g), passes, showStages(got), e, showStages(want))
	}
	if !ir.Right(got) {
		t.Errorf("Run(%s, %d) = %s, which do not fit", showStages(g), passes, showStages(got))
	}
	return got
}

// checkRunFails asks for an error, and that nothing stands beside it.
func checkRunFails(t *testing.T, g []api.Stage, passes int, want api.Errno) {
	t.Helper()
	if got, e := opt.Run(g, passes); e != want || len(got) > 0 {
		t.Errorf("Run(%s, %d) = %s, %d; want %d alone", showStages(g), passes, showStages(got), e, want)
	}
}

// checkLive asks for the ids that are live, and that they are what the chapter's words tell.
func checkLive(t *testing.T, g []api.Stage) []bool {
	t.Helper()
	live := meantLive(g)
	want := make([]bool, 256+len(g[len(g)-2].Merges))
	for id := range want {
		want[id] = live[id]
	}
	got, e := opt.Live(g)
	if e != api.OK || !slices.Equal(got, want) {
		t.Errorf("Live(%s) = %s of %d, %d; want %s of %d", showStages(g), show(lives(got)), len(got), e, show(lives(want)), len(want))
	}
	return got
}

// lives is the ids of which it is told.
func lives(is []bool) (l []int) {
	for id, live := range is {
		if live {
			l = append(l, id)
		}
	}
	return l
}

// checkTold asks whether stages tell of a text what others told of it, if these told anything.
func checkTold(t *testing.T, ahead, behind []api.Stage, s string) {
	t.Helper()
	want, e := ir.Eval(ahead, s)
	got, now := ir.Eval(behind, s)
	switch {
	case e == api.ErrLong:
		if now != api.OK && now != api.ErrLong {
			t.Errorf("%s: Eval tells error %d of %s; %s: %d", showStages(ahead), e, show(s), showStages(behind), now)
		}
	case now != e || !slices.Equal(got, want):
		t.Errorf("%s: Eval tells %s, %d of %s; %s: %s, %d", showStages(ahead), show(want), e, show(s), showStages(behind), show(got), now)
	}
}

// row is stages with these machines, of words of small letters, two merges and a frame.
func row(machines ...api.Machine) (g []api.Stage) {
	for _, m := range machines {
		g = append(g, api.Stage{Kind: api.SMap, Machine: m})
	}
	return append(g,
		api.Stage{Kind: api.SSplit, Dfa: automaton("[a-z]+"), Map: plainMap()},
		api.Stage{Kind: api.SMerge, Merges: pairs('a', 'b', 256, 'c')},
		api.Stage{Kind: api.SFrame, Before: []int{1000}, After: []int{2000, 2001}})
}

// How many stages ahead of the last one these are.
const (
	theFrame = 0
	theMerge = 1
	theSplit = 2
	lastMap  = 3
)

// of is stages with one of them changed: that many ahead of the last one.
func of(g []api.Stage, behind int, change func(s *api.Stage)) []api.Stage {
	g = slices.Clone(g)
	change(&g[len(g)-1-behind])
	return g
}

// withMerges is stages with these merges, without those of drop.
func withMerges(g []api.Stage, l []api.Merge, drop ...int) []api.Stage {
	return of(g, theMerge, func(s *api.Stage) { s.Merges, s.Drop = l, drop })
}

// withMap is stages that take some bytes as others: of each two, the first one as the second one.
func withMap(g []api.Stage, two ...byte) []api.Stage {
	return of(g, theSplit, func(s *api.Stage) { s.Map = mapOf(two...) })
}

func mapOf(two ...byte) [256]uint8 {
	to := plainMap()
	for pair := range slices.Chunk(two, 2) {
		to[pair[0]] = pair[1]
	}
	return to
}

// plainMap has each byte itself.
func plainMap() (to [256]uint8) {
	for b := range to {
		to[b] = uint8(b)
	}
	return to
}

// plainMachine has so many states, goes to state 0 always, and puts each byte itself, and nothing at the end.
func plainMachine(states int) api.Machine {
	m := api.Machine{End: make([]int, states), Texts: []string{""}}
	for range states {
		m.Next = append(m.Next, make([]int, 256))
		m.Put = append(m.Put, slices.Repeat([]int{1}, 256))
	}
	return m
}

// round goes round through so many states, puts each byte itself, and at the end as many bytes as the number of the state in which it is.
func round(states int) api.Machine {
	m := plainMachine(states)
	for i := range states {
		m.Next[i] = slices.Repeat([]int{(i + 1) % states}, 256)
		m.Texts = append(m.Texts, strings.Repeat("n", i))
		m.End[i] = i + 1
	}
	return m
}

// always puts the same text at each byte, the byte itself behind it or not, and another one at the end.
func always(each string, self int, end string) api.Machine {
	return api.Machine{Next: [][]int{make([]int, 256)}, Put: [][]int{slices.Repeat([]int{self}, 256)}, End: []int{1}, Texts: []string{each, end}}
}

// instead puts, of each two bytes, the second one in place of the first one, in one state.
func instead(two ...byte) api.Machine {
	m := plainMachine(1)
	for pair := range slices.Chunk(two, 2) {
		m.Put[0][pair[0]] = 2 * len(m.Texts)
		m.Texts = append(m.Texts, string(pair[1:]))
	}
	return m
}

// spelt is a machine of so many states that goes among them, and puts a byte for each, the same one in all: as a text in some states, and, where it is the byte itself, as that in others.
func spelt(to [256]uint8, states int) api.Machine {
	m := plainMachine(states)
	for b := range 256 {
		m.Texts = append(m.Texts, string([]byte{byte(b)}))
	}
	for i := range states {
		for b := range 256 {
			m.Next[i][b] = (i + b) % states
			m.Put[i][b] = 2 * (1 + int(to[b]))
			if int(to[b]) == b && (i+b)%3 > 0 {
				m.Put[i][b] = 1
			}
		}
	}
	return m
}

// ruled is the machine of rules: Froms and Tos in turn.
func ruled(texts ...string) api.Machine {
	var l []api.Rule
	for pair := range slices.Chunk(texts, 2) {
		l = append(l, api.Rule{From: pair[0], To: pair[1]})
	}
	m, e := trans.Build(l)
	if e != api.OK {
		panic(fmt.Sprint(texts, e))
	}
	return m
}

// behind is a machine of two.
func behind(a, b api.Machine) api.Machine {
	m, e := trans.Then(a, b)
	if e != api.OK {
		panic(e)
	}
	return m
}

// plainDfa has so many states and classes, accepts nothing and goes nowhere.
func plainDfa(states, classes int) api.Dfa {
	d := api.Dfa{Next: make([][]int, states), Accept: make([]bool, states)}
	for i := range d.Next {
		d.Next[i] = slices.Repeat([]int{-1}, classes)
	}
	return d
}

// tree reads an expression.
func tree(s string) api.Re {
	t, e, at := regex.Parse(s)
	if e != api.OK {
		panic(fmt.Sprint(s, e, at))
	}
	return t
}

// automaton is an expression's, not the least one.
func automaton(s string) api.Dfa {
	n, e := nfa.Build(tree(s))
	if e != api.OK {
		panic(fmt.Sprint(s, e))
	}
	d, e := dfa.Build(n)
	if e != api.OK {
		panic(fmt.Sprint(s, e))
	}
	return d
}

// lowered is the stages of a configuration whose lines are parted by / here; the first line is put ahead of them.
func lowered(s string) []api.Stage {
	c, e, at := config.Parse("fretsaw 1\n" + strings.ReplaceAll(s, "/", "\n"))
	if e != api.OK {
		panic(fmt.Sprint(s, e, at))
	}
	g, e := ir.Lower(c)
	if e != api.OK {
		panic(fmt.Sprint(s, e))
	}
	return g
}

// pairs takes Lefts and Rights in turn.
func pairs(ids ...int) (l []api.Merge) {
	for pair := range slices.Chunk(ids, 2) {
		l = append(l, api.Merge{Left: pair[0], Right: pair[1]})
	}
	return l
}

// twoByTwo is so many merges, each of two bytes: the first one changes soonest.
func twoByTwo(many int) (l []api.Merge) {
	for i := range many {
		l = append(l, api.Merge{Left: i % 256, Right: i / 256})
	}
	return l
}

// upTo is the numbers from 0 on.
func upTo(many int) (l []int) {
	for i := range many {
		l = append(l, i)
	}
	return l
}

// everything is all bytes, each once.
func everything() string {
	var all [256]byte
	for b := range all {
		all[b] = byte(b)
	}
	return string(all[:])
}

// dice throws numbers, the same ones for the same n.
func dice(n uint64) *rand.Rand { return rand.New(rand.NewPCG(n, 20)) }

// one draws one of these.
func one[E any](d *rand.Rand, l ...E) E { return l[d.IntN(len(l))] }

// signs is what is drawn of: few bytes, so that much fits, and some that are no characters alone.
const signs = "aaabbbc A\xc3\xa9\xff"

// text draws one of up to so many bytes.
func text(d *rand.Rand, room int) string {
	s := make([]byte, d.IntN(room+1))
	for i := range s {
		s[i] = signs[d.IntN(len(signs))]
		if d.IntN(20) == 0 {
			s[i] = byte(d.IntN(256))
		}
	}
	return string(s)
}

// drawnMachine is one that may be: of a kind of which the passes make something, or any.
func drawnMachine(d *rand.Rand) api.Machine {
	switch d.IntN(12) {
	case 0:
		return plainMachine(1 + d.IntN(3))
	case 1:
		return spelt(plainMap(), 1+d.IntN(4))
	case 2, 3:
		return spelt(drawnMap(d), 1+d.IntN(4))
	case 4, 5:
		return instead(signs[d.IntN(len(signs))], signs[d.IntN(len(signs))])
	case 6, 7:
		return ruled(drawnRules(d)...)
	case 8:
		return round(one(d, 1, 2, 30, 31, 37, 41))
	case 9:
		return always(text(d, 2), d.IntN(2), text(d, 1))
	}
	return anyMachine(d)
}

// anyMachine has few states. What it does at most bytes is often the same.
func anyMachine(d *rand.Rand) api.Machine {
	m := plainMachine(1 + d.IntN(4))
	for range d.IntN(6) {
		m.Texts = append(m.Texts, text(d, 3))
	}
	seldom := 1 + d.IntN(4)
	for i := range m.Next {
		to, put := d.IntN(len(m.Next)), d.IntN(2*len(m.Texts))
		for b := range 256 {
			m.Next[i][b], m.Put[i][b] = to, put
			if d.IntN(seldom) == 0 || strings.IndexByte(signs, byte(b)) >= 0 {
				m.Next[i][b], m.Put[i][b] = d.IntN(len(m.Next)), one(d, 1, 1, d.IntN(2*len(m.Texts)))
			}
		}
		m.End[i] = d.IntN(len(m.Texts))
	}
	return m
}

func drawnRules(d *rand.Rand) (l []string) {
	had := map[string]int{}
	for range d.IntN(5) {
		from := text(d, one(d, 1, 2, 4))
		if had[from]++; from != "" && had[from] == 1 {
			l = append(l, from, text(d, one(d, 0, 1, 2, 5)))
		}
	}
	return l
}

// drawnDfa is one that may be, mostly not the least one: some states are not reached, and some do what others do.
func drawnDfa(d *rand.Rand) api.Dfa {
	a := plainDfa(1+d.IntN(6), 1+d.IntN(4))
	seldom, long := 1+d.IntN(6), 1+d.IntN(9)
	for i, row := range a.Next {
		a.Accept[i] = d.IntN(seldom) == 0
		for j := range row {
			if d.IntN(long) > 0 {
				row[j] = d.IntN(len(a.Next))
			}
		}
	}
	for b := range a.Class {
		a.Class[b] = uint8(d.IntN(len(a.Next[0])))
	}
	return a
}

// drawnMap has other bytes for some, mostly for those that are drawn.
func drawnMap(d *rand.Rand) [256]uint8 {
	to := plainMap()
	for range d.IntN(6) {
		to[signs[d.IntN(len(signs))]] = signs[d.IntN(len(signs))]
	}
	for range d.IntN(3) {
		to[d.IntN(256)] = uint8(d.IntN(256))
	}
	return to
}

// drawnMerges leaves out what may not stand behind those ahead.
func drawnMerges(d *rand.Rand) (l []api.Merge) {
	bytes := one(d, "aab", "ab c", signs)
	texts := []string{}
	for b := range 256 {
		texts = append(texts, string([]byte{byte(b)}))
	}
	for range d.IntN(14) {
		var m [2]int
		for i := range m {
			m[i] = int(bytes[d.IntN(len(bytes))])
			if d.IntN(3) == 0 && len(l) > 0 {
				m[i] = 256 + d.IntN(len(l))
			}
		}
		if s := texts[m[0]] + texts[m[1]]; len(s) <= 64 && !slices.Contains(texts, s) {
			l = append(l, api.Merge{Left: m[0], Right: m[1]})
			texts = append(texts, s)
		}
	}
	return l
}

func drawnFrame(d *rand.Rand) (l []int) {
	for range d.IntN(4) {
		l = append(l, d.IntN(65536))
	}
	return l
}

// drawnStages fit.
func drawnStages(d *rand.Rand) (g []api.Stage) {
	for range one(d, 0, 1, 1, 2, 2, 3, 4) {
		g = append(g, api.Stage{Kind: api.SMap, Machine: drawnMachine(d)})
	}
	split := api.Stage{Kind: api.SSplit, Dfa: drawnDfa(d), Map: drawnMap(d)}
	if d.IntN(2) == 0 {
		split.Dfa = automaton(one(d, "[a-z]+", "[ab]+| ", "[^ ]+", "[\\x00-\\xff]{1,5}", "ab|(a|b)*c|[^a]+", " ?[a-c]+|[\\x80-\\xff]+"))
	}
	merge := api.Stage{Kind: api.SMerge, Merges: drawnMerges(d)}
	for k := range merge.Merges {
		if d.IntN(5) == 0 {
			merge.Drop = append(merge.Drop, k)
		}
	}
	return append(g, split, merge, api.Stage{Kind: api.SFrame, Before: drawnFrame(d), After: drawnFrame(d)})
}

// show writes anything, but not all of what is long.
func show(x any) string {
	s := strconv.QuoteToASCII(fmt.Sprint(x))
	if len(s) > 400 {
		return s[:400] + ".."
	}
	return s
}

// showStages tells of stages as much as a line can hold.
func showStages(g []api.Stage) string {
	var l []string
	for _, s := range g {
		switch s.Kind {
		case api.SMap:
			l = append(l, fmt.Sprintf("map of %d states, texts %.60s", len(s.Machine.Next), fmt.Sprintf("%.60q", s.Machine.Texts)))
		case api.SSplit:
			l = append(l, fmt.Sprintf("split of %d states", len(s.Dfa.Next)))
		case api.SMerge:
			l = append(l, fmt.Sprintf("merge %.60s without %.60s", fmt.Sprint(s.Merges), fmt.Sprint(s.Drop)))
		case api.SFrame:
			l = append(l, fmt.Sprintf("frame %.60s %.60s", fmt.Sprint(s.Before), fmt.Sprint(s.After)))
		default:
			l = append(l, fmt.Sprint("kind ", s.Kind))
		}
	}
	return strings.Join(l, "; ")
}
