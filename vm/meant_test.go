package vm_test

import (
	"fmt"
	"math/rand/v2"
	"slices"
	"strings"
	"sync"

	"fretsaw/api"
	"fretsaw/hash"
)

// This file holds the chapter's words once more, in other ways than the program has them, and makes the instructions, the programs and the inputs that are tried.

// The limits, as the chapter tells them.
const (
	mostInput = 4096
	mostRoom  = 262144
	mostSigns = 65536
	mostGrow  = 1 << 20
	mostFuel  = 1 << 45
)

// The words of instructions, with their fields in the order of chapter 21.
func halt() api.Ins            { return api.Ins{Op: api.Halt} }
func load(a, n int) api.Ins    { return api.Ins{Op: api.Load, A: a, B: n} }
func move(a, b int) api.Ins    { return api.Ins{Op: api.Move, A: a, B: b} }
func jump(c int) api.Ins       { return api.Ins{Op: api.Jump, C: c} }
func same(a, n, c int) api.Ins { return api.Ins{Op: api.Same, A: a, B: n, C: c} }
func less(a, n, c int) api.Ins { return api.Ins{Op: api.Less, A: a, B: n, C: c} }
func next(a, c int) api.Ins    { return api.Ins{Op: api.Next, A: a, C: c} }
func look(a, b, d int) api.Ins { return api.Ins{Op: api.Look, A: a, B: b, D: d} }
func mark(a int) api.Ins       { return api.Ins{Op: api.Mark, A: a} }
func back(a int) api.Ins       { return api.Ins{Op: api.Back, A: a} }
func here(a, c int) api.Ins    { return api.Ins{Op: api.Here, A: a, C: c} }
func putByte(a int) api.Ins    { return api.Ins{Op: api.Copy, A: a} }
func putText(a, b int) api.Ins { return api.Ins{Op: api.Text, A: a, B: b} }
func turn() api.Ins            { return api.Ins{Op: api.Turn} }
func sign(a int) api.Ins       { return api.Ins{Op: api.Sign, A: a} }
func join() api.Ins            { return api.Ins{Op: api.Join} }
func emit(a int) api.Ins       { return api.Ins{Op: api.Emit, A: a} }

// world is all that a run has, as a value: what an instruction does is another world.
type world struct {
	r           [8]int
	marks       [2]int
	source      string
	here        int
	put         string
	signs, told []int
	place       int
}

// word is what the chapter tells of an Op: what A and B are (a register, a mark, or something else), what else is a fault, and what the world is then.
type word struct {
	named string
	wrong func(p api.Program, w world, i api.Ins) bool
	then  func(p api.Program, w world, i api.Ins) world
}

// to is a world that goes to a place.
func (w world) to(place int) world {
	w.place = place
	return w
}

// with is a world with another number in a register.
func (w world) with(register, n int) world {
	w.r[register] = n
	return w
}

func isByte(n int) bool { return n == int(byte(n)) }

func clamped(n, most int) int {
	if n < 0 {
		return 0
	}
	if n > most {
		return most
	}
	return n
}

// meantWords is made once: it is asked again and again.
var meantWords = sync.OnceValue(func() map[int]word {
	return map[int]word{
		1: {named: ""},
		2: {named: "r", then: func(_ api.Program, w world, i api.Ins) world { return w.with(i.A, i.B) }},
		3: {named: "rr", then: func(_ api.Program, w world, i api.Ins) world { return w.with(i.A, w.r[i.B]) }},
		4: {named: "", then: func(_ api.Program, w world, i api.Ins) world { return w.to(i.C) }},
		5: {named: "r", then: func(_ api.Program, w world, i api.Ins) world {
			if w.r[i.A] != i.B {
				return w
			}
			return w.to(i.C)
		}},
		6: {named: "r", then: func(_ api.Program, w world, i api.Ins) world {
			if w.r[i.A] >= i.B {
				return w
			}
			return w.to(i.C)
		}},
		7: {named: "r", then: func(_ api.Program, w world, i api.Ins) world {
			rest := w.source[w.here:]
			if rest == "" {
				return w.to(i.C)
			}
			w.here++
			return w.with(i.A, int(rest[0]))
		}},
		8: {named: "rr", wrong: func(p api.Program, w world, i api.Ins) bool {
			_, ok := meantCell(p, i.D, w.r[i.A], w.r[i.B])
			return !ok
		}, then: func(p api.Program, w world, i api.Ins) world {
			n, _ := meantCell(p, i.D, w.r[i.A], w.r[i.B])
			return w.with(i.A, n)
		}},
		9: {named: "m", then: func(_ api.Program, w world, i api.Ins) world {
			w.marks[i.A] = w.here
			return w
		}},
		10: {named: "m", then: func(_ api.Program, w world, i api.Ins) world {
			w.here = w.marks[i.A]
			return w
		}},
		11: {named: "m", then: func(_ api.Program, w world, i api.Ins) world {
			if w.marks[i.A] == w.here {
				return w.to(i.C)
			}
			return w
		}},
		12: {named: "r", wrong: func(_ api.Program, w world, i api.Ins) bool { return !isByte(w.r[i.A]) }, then: func(_ api.Program, w world, i api.Ins) world {
			w.put += string([]byte{byte(w.r[i.A])})
			return w
		}},
		13: {named: "rr", wrong: func(p api.Program, w world, i api.Ins) bool {
			_, ok := meantBytes(p, w.r[i.A], w.r[i.B])
			return !ok
		}, then: func(p api.Program, w world, i api.Ins) world {
			s, _ := meantBytes(p, w.r[i.A], w.r[i.B])
			w.put += s
			return w
		}},
		14: {named: "", then: func(_ api.Program, w world, _ api.Ins) world {
			return world{r: w.r, source: w.put, signs: w.signs, told: w.told, place: w.place}
		}},
		15: {named: "r", wrong: func(p api.Program, w world, i api.Ins) bool {
			return w.r[i.A] < 0 || w.r[i.A] >= clamped(p.Signs, mostSigns)
		}, then: func(_ api.Program, w world, i api.Ins) world {
			w.signs = slices.Concat(w.signs, []int{w.r[i.A]})
			return w
		}},
		16: {named: "", then: func(p api.Program, w world, _ api.Ins) world {
			l, _ := meantMerge(p.Pairs, clamped(p.Signs, mostSigns), w.signs)
			w.signs, w.told = nil, slices.Concat(w.told, l)
			return w
		}},
		17: {named: "r", then: func(_ api.Program, w world, i api.Ins) world {
			w.told = slices.Concat(w.told, []int{w.r[i.A]})
			return w
		}},
	}
})

// meantCell parts a table's Data into whole rows, and takes one number of one of them.
func meantCell(p api.Program, table, row, column int) (int, bool) {
	if table < 0 || table >= len(p.Tables) || p.Tables[table].Cols < 1 {
		return 0, false
	}
	rest := p.Tables[table].Data
	for cols := p.Tables[table].Cols; len(rest) >= cols; rest = rest[cols:] {
		if row == 0 {
			if column < 0 || column >= cols {
				return 0, false
			}
			return rest[column], true
		}
		row--
	}
	return 0, false
}

// meantBytes is what a Text puts.
func meantBytes(p api.Program, v, b int) (string, bool) {
	for number, s := range p.Texts {
		if v == 2*number {
			return s, true
		}
		if v == 2*number+1 {
			return s + string([]byte{byte(b)}), isByte(b)
		}
	}
	return "", false
}

// meantMerge goes through all places, again and again.
func meantMerge(h api.Hash, signs int, l []int) ([]int, bool) {
	l = slices.Clone(l)
	for {
		at, least := -1, uint64(0)
		for i := range l[:max(len(l), 1)-1] {
			v, ok := hash.Get(h, uint64(l[i])<<32|uint64(l[i+1]))
			if ok && (at < 0 || v>>32 < least>>32) {
				at, least = i, v
			}
		}
		if at < 0 {
			return l, true
		}
		if least&0xFFFFFFFF >= uint64(signs) {
			return nil, false
		}
		l = slices.Concat(l[:at], []int{int(least & 0xFFFFFFFF)}, l[at+2:])
	}
}

// isNamed tells whether the registers and marks that an Op names are there.
func isNamed(named string, i api.Ins) bool {
	for at, kind := range named {
		n, most := []int{i.A, i.B}[at], 7
		if kind == 'm' {
			most = 1
		}
		if n < 0 || n > most {
			return false
		}
	}
	return true
}

// ending is what a run tells.
type ending struct {
	ids  []int
	end  int
	used int
}

// meantRun makes the world behind each instruction, looks at whether it may be, and only then takes it.
func meantRun(p api.Program, input string, fuel int) ending {
	if len(input) > mostInput {
		return ending{nil, api.TooLong, 0}
	}
	fuel = clamped(fuel, mostFuel)
	room := clamped(p.Grow, mostGrow)*len(input) + clamped(p.Rest, mostGrow) + clamped(p.Extra, mostGrow)
	isRoom := func(w world) bool {
		return len(w.put) <= mostRoom && len(w.signs) <= mostRoom && len(w.told) <= room
	}
	w, used := world{source: input}, 0
	for {
		if w.place < 0 || w.place >= len(p.Code) {
			return ending{nil, api.Fault, used}
		}
		i := p.Code[w.place]
		m, ok := meantWords()[i.Op]
		if !ok || !isNamed(m.named, i) || m.wrong != nil && m.wrong(p, w, i) {
			return ending{nil, api.Fault, used}
		}
		then := w.to(w.place + 1)
		if m.then != nil {
			then = m.then(p, then, i)
		}
		cost := 1
		if i.Op == api.Text {
			cost += len(then.put) - len(w.put)
		}
		if i.Op == api.Join {
			cost += 4 * len(w.signs)
		}
		if i.Op != api.Join && !isRoom(then) || used+cost > fuel {
			return ending{nil, api.NoFuel, used}
		}
		used += cost
		if i.Op == api.Join {
			if _, ok := meantMerge(p.Pairs, clamped(p.Signs, mostSigns), w.signs); !ok {
				return ending{nil, api.Fault, used}
			}
			if !isRoom(then) {
				return ending{nil, api.NoFuel, used}
			}
		}
		if i.Op == api.Halt {
			return ending{w.told, api.Done, used}
		}
		w = then
	}
}

// dice is numbers that are drawn, the same ones for the same seed.
func dice(seed uint64) *rand.Rand { return rand.New(rand.NewPCG(seed, 22)) }

// oneOf is one of several.
func oneOf[E any](d *rand.Rand, l ...E) E { return l[d.IntN(len(l))] }

// pairsOf makes Pairs of numbers by fours: two signs, a rank, and what they become.
func pairsOf(l ...uint64) api.Hash {
	var keys, vals []uint64
	for ; len(l) > 0; l = l[4:] {
		keys = append(keys, l[0]<<32|l[1])
		vals = append(vals, l[2]<<32|l[3])
	}
	h, e := hash.Build(keys, vals)
	if e != api.OK {
		panic(fmt.Sprint("these are no pairs: ", keys))
	}
	return h
}

// halves is the same pairs in a hash without seeds.
func halves(h api.Hash) api.Hash {
	vals := map[uint64]uint64{}
	for at, key := range h.Keys {
		vals[key] = h.Vals[at]
	}
	var out api.Hash
	for _, key := range slices.Sorted(slices.Values(h.Keys)) {
		out.Keys, out.Vals = append(out.Keys, key), append(out.Vals, vals[key])
	}
	return out
}

// drawnPairs is pairs of few signs, with few ranks, so that several places have the same one.
func drawnPairs(d *rand.Rand, signs int) api.Hash {
	var keys, vals []uint64
	one := func() uint64 {
		if signs > 99 {
			return oneOf[uint64](d, 'a', 'a', 'b', 'c', 0, 1, uint64(d.IntN(signs)))
		}
		return uint64(d.IntN(signs))
	}
	for range d.IntN(12) {
		key := one()<<32 | one()
		if !slices.Contains(keys, key) {
			keys = append(keys, key)
			vals = append(vals, uint64(oneOf(d, d.IntN(3), d.IntN(10), 1<<32-1))<<32|one())
		}
	}
	h, _ := hash.Build(keys, vals)
	switch d.IntN(12) {
	case 0, 1, 2:
		return halves(h)
	case 3:
		return api.Hash{Seeds: []uint32{uint32(d.IntN(9))}, Keys: keys, Vals: vals} // some of them are not found
	case 4:
		return api.Hash{Keys: keys, Vals: append(vals, 1)} // none of them is
	}
	return h
}

// drawnIns is an instruction, most often one that may be done.
func drawnIns(d *rand.Rand, code, tables int) api.Ins {
	i := api.Ins{Op: 1 + d.IntN(17), A: d.IntN(2), B: d.IntN(3), C: d.IntN(code), D: d.IntN(tables)}
	switch i.Op {
	case api.Halt:
		i.Op = oneOf(d, api.Halt, api.Next, api.Sign, api.Copy)
	case api.Load, api.Same, api.Less:
		i.B = oneOf(d, d.IntN(4), d.IntN(4), 'a', 'b', 255, 256, -1)
	}
	if d.IntN(150) == 0 {
		*oneOf(d, &i.Op, &i.A, &i.B, &i.C, &i.D) = oneOf(d, -1, 2, 8, 18, 255, 256, code, -1<<63, 1<<63-1)
	}
	return i
}

// drawnLoops is code that goes over its source, does little with each byte, and goes over what was put then.
func drawnLoops(d *rand.Rand, texts int) []api.Ins {
	code := []api.Ins{load(1, d.IntN(2*texts+1)), load(2, oneOf[int](d, 0, 1, 'a', 'b'))}
	for range 1 + d.IntN(3) {
		at := len(code)
		code = append(code, next(0, 0))
		for range 1 + d.IntN(3) {
			code = append(code, oneOf(d, sign(0), sign(2), emit(0), putByte(0), putByte(2), putText(1, 0), mark(0), move(2, 0), same(0, 'a', at), less(0, 'b', at), here(0, at)))
		}
		code = append(code, jump(at))
		code[at].C = len(code)
		code = append(code, oneOf(d, join(), turn(), turn(), back(0), emit(0)))
	}
	return append(code, join(), halt())
}

// drawnProgram is a program with little in it.
func drawnProgram(d *rand.Rand) api.Program {
	p := api.Program{Grow: d.IntN(4), Rest: d.IntN(12) - 1, Extra: d.IntN(12) - 1, Signs: oneOf(d, 3, 5, 99, 256, 256, 256, 70000, -1)}
	for range 1 + d.IntN(2) {
		t := api.Table{Cols: 1 + d.IntN(3)}
		for range 1 + d.IntN(9) {
			t.Data = append(t.Data, d.IntN(4))
		}
		p.Tables = append(p.Tables, t)
	}
	for range d.IntN(4) {
		p.Texts = append(p.Texts, strings.Repeat(oneOf(d, "a", "ab", "\xff"), d.IntN(4)))
	}
	p.Pairs = drawnPairs(d, oneOf(d, 3, 3, 5, 100))
	if d.IntN(2) == 0 {
		p.Code = drawnLoops(d, len(p.Texts))
		return p
	}
	many := 2 + d.IntN(12)
	for range many {
		p.Code = append(p.Code, drawnIns(d, many, len(p.Tables)))
	}
	p.Code = append(p.Code, oneOf(d, halt(), halt(), halt(), jump(d.IntN(many)), join()))
	return p
}

func drawnInput(d *rand.Rand) string {
	var b []byte
	for range d.IntN(8) {
		b = append(b, oneOf[byte](d, 'a', 'a', 'b', 'c', 0, 1, 2, 255))
	}
	return string(b)
}

// show cuts off what is long.
func show(x any) string {
	s := fmt.Sprintf("%+v", x)
	if len(s) > 900 {
		return s[:900] + ".."
	}
	return s
}
