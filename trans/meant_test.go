package trans_test

import (
	"fmt"
	"math"
	"slices"
	"strings"

	"fretsaw/api"
)

// This file holds the chapter's words once more, in other ways than the program has them, and makes the machines, rules and texts that are tried.

// meantRight looks at one number after the other.
func meantRight(m api.Machine) bool {
	n := len(m.Next)
	if n < 1 || n > 1200 || len(m.Put) != n || len(m.End) != n || len(m.Texts) > 4096 {
		return false
	}
	for _, s := range m.Texts {
		if len(s) > 4096 {
			return false
		}
	}
	for i := range n {
		if len(m.Next[i]) != 256 || len(m.Put[i]) != 256 || m.End[i] < 0 || m.End[i] > len(m.Texts)-1 {
			return false
		}
		for b := range 256 {
			if m.Next[i][b] < 0 || m.Next[i][b] > n-1 || m.Put[i][b] < 0 || m.Put[i][b] > 2*len(m.Texts)-1 {
				return false
			}
		}
	}
	return true
}

// meantPut is what is put at one byte.
func meantPut(m api.Machine, state, b int) string {
	v := m.Put[state][b]
	return m.Texts[(v-v%2)/2] + strings.Repeat(string([]byte{byte(b)}), v%2)
}

// meantAll goes along a whole text, and lists what is put.
func meantAll(m api.Machine, s string) string {
	var parts []string
	state := 0
	for _, b := range []byte(s) {
		parts = append(parts, meantPut(m, state, int(b)))
		state = m.Next[state][b]
	}
	return strings.Join(append(parts, m.Texts[m.End[state]]), "")
}

// meantReached goes on from what is reached until there is no more.
func meantReached(m api.Machine) []int {
	is := map[int]bool{0: true}
	for more := -1; more != len(is); {
		more = len(is)
		for state := range m.Next {
			if is[state] {
				for _, to := range m.Next[state] {
					is[to] = true
				}
			}
		}
	}
	var l []int
	for state := range m.Next {
		if is[state] {
			l = append(l, state)
		}
	}
	return l
}

// meantBytes holds each state that is reached against state 0.
func meantBytes(m api.Machine) (to [256]uint8, is bool) {
	for _, state := range meantReached(m) {
		if m.Texts[m.End[state]] != "" {
			return [256]uint8{}, false
		}
		for b := range 256 {
			s := meantPut(m, state, b)
			if len(s) != 1 || s != meantPut(m, 0, b) {
				return [256]uint8{}, false
			}
			to[b] = s[0]
		}
	}
	return to, true
}

// meantGrow takes all lengths there are.
func meantGrow(m api.Machine) (int, int) {
	var each, end []int
	for state := range m.Next {
		for b := range 256 {
			each = append(each, len(meantPut(m, state, b)))
		}
		end = append(end, len(m.Texts[m.End[state]]))
	}
	return slices.Max(each), slices.Max(end)
}

// meantRewrite asks every rule at every place.
func meantRewrite(l []api.Rule, s string) string {
	out := ""
	for at := 0; at < len(s); {
		from, to := "", s[at:at+1]
		for _, r := range l {
			if strings.HasPrefix(s[at:], r.From) && len(r.From) > len(from) {
				from, to = r.From, r.To
			}
		}
		out += to
		at += max(len(from), 1)
	}
	return out
}

// froms is how many bytes all Froms have together.
func froms(l []api.Rule) int {
	n := 0
	for _, r := range l {
		n += len(r.From)
	}
	return n
}

// spread makes numbers that look as if there were no order in them: the same ones at each run.
func spread(n uint64) uint64 {
	n += 0x9E3779B97F4A7C15
	n = (n ^ n>>30) * 0xBF58476D1CE4E5B9
	n = (n ^ n>>27) * 0x94D049BB133111EB
	return n ^ n>>31
}

// dice throws numbers, the same ones for the same n.
type dice struct{ n, at uint64 }

func (d *dice) below(n int) int {
	d.at++
	return int(spread(d.n<<24|d.at) % uint64(n))
}

func (d *dice) text(bytes string, room int) string {
	var s strings.Builder
	for range d.below(room + 1) {
		s.WriteByte(bytes[d.below(len(bytes))])
	}
	return s.String()
}

// texts is some of these bytes.
func (d *dice) texts(many int, bytes string, room int) (l []string) {
	for range many {
		l = append(l, d.text(bytes, room))
	}
	return l
}

// rules is some that may be, of these bytes.
func (d *dice) rules(bytes string, many, from, to int) (l []api.Rule) {
	for range d.below(many + 1) {
		l = with(l, api.Rule{From: d.text(bytes, from), To: d.text(bytes, to)})
	}
	return l
}

// with has one rule more, if there may be that one.
func with(l []api.Rule, r api.Rule) []api.Rule {
	if r.From == "" || slices.ContainsFunc(l, func(o api.Rule) bool { return o.From == r.From }) {
		return l
	}
	return append(l, r)
}

// about is a text in which Froms stand, begin and are cut off.
func (d *dice) about(l []api.Rule, bytes string, parts int) string {
	var s strings.Builder
	for range d.below(parts + 1) {
		if len(l) > 0 && d.below(4) > 0 {
			from := l[d.below(len(l))].From
			at := d.below(len(from)) * (d.below(3) / 2)
			s.WriteString(from[at : at+1+d.below(len(from)-at)])
		} else {
			s.WriteString(d.text(bytes, 2))
		}
	}
	return s.String()
}

// machine is one that may be. What it does at most bytes is often the same, so that some are of few texts and some of many.
func (d *dice) machine(states, texts int, bytes string, room int) api.Machine {
	m := plain(1 + d.below(states))
	m.Texts = append([]string{""}, d.texts(d.below(texts), bytes, room)...)
	seldom := 1 + d.below(4)
	for i := range m.Next {
		to, put := d.below(len(m.Next)), d.below(2*len(m.Texts))
		for b := range 256 {
			m.Next[i][b], m.Put[i][b] = to, put
			if d.below(seldom) == 0 || strings.IndexByte(bytes, byte(b)) >= 0 {
				m.Next[i][b], m.Put[i][b] = d.below(len(m.Next)), d.below(2*len(m.Texts))
			}
		}
		m.End[i] = d.below(len(m.Texts))
	}
	return m
}

// plain has so many states, goes to state 0 always, and puts each byte itself, and nothing at the end.
func plain(states int) api.Machine {
	m := api.Machine{End: make([]int, states), Texts: []string{""}}
	for range states {
		m.Next = append(m.Next, make([]int, 256))
		m.Put = append(m.Put, slices.Repeat([]int{1}, 256))
	}
	return m
}

// ring goes from each state to the next one, and from the last one to the first.
func ring(states int) api.Machine {
	m := plain(states)
	for i := range m.Next {
		m.Next[i] = slices.Repeat([]int{(i + 1) % states}, 256)
	}
	return m
}

// count is a ring that tells at the end in which state it is: by as many bytes as its number.
func count(states int, one string) api.Machine {
	m := ring(states)
	for i := range states {
		m.Texts = append(m.Texts, strings.Repeat(one, i))
		m.End[i] = i + 1
	}
	return m
}

// always has one state, and puts the same at each byte, and something at the end.
func always(each, end string) api.Machine {
	return api.Machine{Next: [][]int{make([]int, 256)}, Put: [][]int{make([]int, 256)}, End: []int{1}, Texts: []string{each, end}}
}

// mapped has one state, and puts another byte in place of each.
func mapped(to func(byte) byte) api.Machine {
	m := plain(1)
	for b := range 256 {
		m.Texts = append(m.Texts, string([]byte{to(byte(b))}))
		m.Put[0][b] = 2 * (b + 1)
	}
	return m
}

// rules takes Froms and Tos in turn.
func rules(pairs ...string) (l []api.Rule) {
	for pair := range slices.Chunk(pairs, 2) {
		l = append(l, api.Rule{From: pair[0], To: pair[1]})
	}
	return l
}

// everything is all bytes, each once.
func everything() string {
	var all [256]byte
	for b := range all {
		all[b] = byte(b)
	}
	return string(all[:])
}

// short are all texts of up to so many bytes.
func short(bytes string, room int) []string {
	out := []string{""}
	for i := 0; i < len(out); i++ {
		for b := range len(bytes) {
			if len(out[i]) < room {
				out = append(out, out[i]+bytes[b:b+1])
			}
		}
	}
	return out
}

// beyond are numbers that are below 0, or not below a bound.
func beyond(bound int) []int {
	return []int{-1, -2, -256, math.MinInt32, math.MinInt, bound, bound + 1, 2*bound + 3, math.MaxInt32, math.MaxInt}
}

func copied(m api.Machine) api.Machine {
	c := api.Machine{End: slices.Clone(m.End)}
	for _, row := range m.Next {
		c.Next = append(c.Next, slices.Clone(row))
	}
	for _, row := range m.Put {
		c.Put = append(c.Put, slices.Clone(row))
	}
	for _, s := range m.Texts {
		c.Texts = append(c.Texts, strings.Clone(s))
	}
	return c
}

func same(a, b api.Machine) bool {
	rows := func(one, two [][]int) bool { return slices.EqualFunc(one, two, slices.Equal[[]int]) }
	return rows(a.Next, b.Next) && rows(a.Put, b.Put) && slices.Equal(a.End, b.End) && slices.Equal(a.Texts, b.Texts)
}

func empty(m api.Machine) bool {
	return len(m.Next) == 0 && len(m.Put) == 0 && len(m.End) == 0 && len(m.Texts) == 0
}

// show tells of a machine as much as a line can hold.
func show(m api.Machine) string {
	return fmt.Sprintf("(%d rows of Next, %d of Put, End %.60s, %d texts %.120q)", len(m.Next), len(m.Put), fmt.Sprint(m.End), len(m.Texts), m.Texts[:min(len(m.Texts), 9)])
}
