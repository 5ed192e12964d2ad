package mini_test

import (
	"sync"
	"testing"

	"fretsaw/api"
	"fretsaw/mini"
)

// checkMeantMap holds a mapped one against the chapter's words.
func checkMeantMap(t *testing.T, d api.Dfa, to [256]uint8) {
	t.Helper()
	checkMap(t, d, to, meantLeast(meantMap(d, to)))
}

// P9.2: with each byte for itself it is the least.
func TestMapSelf(t *testing.T) {
	for i := range 1000 {
		d := (&dice{n: uint64(i)}).dfa(9, 9)
		checkMap(t, d, self(), least(t, d))
	}
	for _, s := range []string{"a", "(a|b)*abb", "[a-z]+|[0-9]{1,2}", `[^\x00-\xff]`, "()"} {
		checkMap(t, parsed(t, s), self(), least(t, parsed(t, s)))
	}
}

// P9.2: one byte for all: there is one class, and what is taken hangs on how long a text is.
func TestMapOnly(t *testing.T) {
	checkMap(t, parsed(t, "a"), only('a'), like([][]int{{1}, {-1}}, "-+"))
	checkMap(t, parsed(t, "a"), only('b'), nothing())
	checkMap(t, parsed(t, "a*b"), only('a'), nothing())
	checkMap(t, parsed(t, "a*|b"), only('a'), like([][]int{{0}}, "+"))
	checkMap(t, parsed(t, "a|bbb"), only('b'), like([][]int{{1}, {2}, {3}, {-1}}, "---+"))
	checkMap(t, parsed(t, `[^\x00-\xff]`), only(0), nothing())
	for b := range 256 {
		d := plain(2, 2)
		d.Class[b], d.Accept[1], d.Next[0][1] = 1, true, 1
		for one := range 256 {
			if want := like([][]int{{1}, {-1}}, "-+"); one == b {
				checkMap(t, d, only(byte(one)), want)
			} else if one%16 == b%16 {
				checkMap(t, d, only(byte(one)), nothing())
			}
		}
	}
}

// P9.2: two bytes that are turned round; twice is the least again.
func TestMapTurned(t *testing.T) {
	turn := self()
	turn['a'], turn['b'] = 'b', 'a'
	for one, other := range map[string]string{
		"a": "b", "b": "a", "c": "c", "ab": "ba", "a*b|c": "b*a|c", "[ab]+": "[ab]+", "[^a]": "[^b]", "(a|b)*abb": "(a|b)*baa", "[a-z]+x": "[a-z]+x", "a{2,3}b?": "b{2,3}a?",
	} {
		checkMap(t, parsed(t, one), turn, least(t, parsed(t, other)))
		checkMap(t, mapped(t, parsed(t, one), turn), turn, least(t, parsed(t, one)))
	}
	ends := self()
	ends[0], ends[255] = 255, 0
	checkMap(t, parsed(t, `\x00a*`), ends, least(t, parsed(t, `\xffa*`)))
	checkMap(t, parsed(t, `\xff\x00`), ends, least(t, parsed(t, `\x00\xff`)))
}

// P9.2: it is the byte that is replaced, ahead of the dfa: not what the dfa would take.
func TestMapOneWay(t *testing.T) {
	lower := self()
	for b := 'A'; b <= 'Z'; b++ {
		lower[b] = uint8(b - 'A' + 'a')
	}
	checkMap(t, parsed(t, "[a-z]+"), lower, least(t, parsed(t, "[a-zA-Z]+")))
	checkMap(t, parsed(t, "[A-Z]+"), lower, nothing())
	checkMap(t, parsed(t, "ab|C"), lower, least(t, parsed(t, "[aA][bB]")))
	checkMap(t, parsed(t, "[^a]"), lower, least(t, parsed(t, "[^aA]")))
	// A row of bytes, each put for the one ahead of it.
	next := self()
	for b := range next {
		next[b] = uint8(b + 1)
	}
	checkMap(t, parsed(t, "b"), next, least(t, parsed(t, "a")))
	checkMap(t, parsed(t, `\x00`), next, least(t, parsed(t, `\xff`)))
	checkMap(t, parsed(t, "b*c[d-f]"), next, least(t, parsed(t, "a*b[c-e]")))
}

// P9.2: classes that are left without a byte, or come to have bytes that they had not, or are never any byte's.
func TestMapClasses(t *testing.T) {
	d := like([][]int{{-1, 1, 2, 3}, {-1, -1, -1, 0}, {-1, 1, -1, 1}, {3, 3, 3, 3}}, "-+-+", "a", "b")
	never := self()
	never['a'] = 'x'
	checkMap(t, d, never, nothing())
	never['a'], never['b'] = 'a', 'x'
	checkMap(t, d, never, like([][]int{{-1, 1}, {-1, -1}}, "-+", "a"))
	never['b'], never['c'] = 'b', 'a'
	checkMap(t, d, never, least(t, parsed(t, "[ac]|b[ac]")))
	// No byte has the class 3, whichever is put.
	for b := range 256 {
		checkMeantMap(t, d, only(byte(b)))
	}
	// All bytes but one had a class; a map gives it to that one, and to no other.
	ring := like([][]int{{0, 1}, {1, -1}}, "-+", "\x80")
	only80, all80 := self(), only(0)
	for b := range only80 {
		if only80[b] = 0x80; b == 0x80 {
			only80[b], all80[b] = 0, 0x80
		}
	}
	checkMap(t, ring, only80, least(t, parsed(t, `\x80*[^\x80]\x80*`)))
	checkMap(t, ring, all80, least(t, parsed(t, `[^\x80]*\x80[^\x80]*`)))
	// What a map left without a byte is gone for good.
	checkMap(t, mapped(t, parsed(t, "a|bb"), only('a')), only('b'), like([][]int{{1}, {-1}}, "-+"))
}

// P9.2: many, against the chapter's words.
func TestMapMany(t *testing.T) {
	for i := range 1500 {
		d := &dice{n: uint64(i)}
		checkMeantMap(t, d.dfa(6, 6), d.bytes())
	}
	for i := range 10 {
		d := &dice{n: uint64(i) + 1<<32}
		checkMeantMap(t, d.dfa(30, 256), d.bytes())
	}
}

// P9.2: one map behind another one; and the least of what is mapped is itself; and what is mapped of the least is what is mapped.
func TestMapTwice(t *testing.T) {
	for i := range 600 {
		d := &dice{n: uint64(i)}
		a, one, two := d.dfa(9, 7), d.bytes(), d.bytes()
		var both [256]uint8
		for b := range both {
			both[b] = one[two[b]]
		}
		m := mapped(t, a, one)
		checkMap(t, m, two, mapped(t, a, both))
		checkLeast(t, m, m)
		checkMap(t, least(t, a), one, m)
	}
}

// P1: the greatest that there may be are done with soon, even if one state is told apart at a time.
func TestGreat(t *testing.T) {
	d := plain(400, 256)
	for i := range d.Next {
		for j := range d.Next[i] {
			d.Next[i][j] = i
			d.Class[j] = uint8(j)
		}
		d.Next[i][i%255+1] = 0
		d.Next[i][0] = min(i+1, 399)
	}
	d.Accept[399] = true
	checkLeast(t, d, d)
	// Each state is told apart by another class, and all from the last one on.
	for i := range d.Next {
		for j := range d.Next[i] {
			d.Next[i][j] = 0
		}
		d.Next[i][i%256] = min(i+1, 399)
	}
	if m := least(t, d); len(m.Next) != 400 || len(m.Next[0]) != 256 {
		t.Error(show(m))
	}
	turn := self()
	for b := range turn {
		turn[b] = uint8(255 - b)
	}
	checkMap(t, mapped(t, d, turn), turn, least(t, d))
}

// R4: what is answered is new memory, and no two rows share any.
func TestNewMemory(t *testing.T) {
	d := least(t, parsed(t, "a*(b|c){2,3}|[a-z]+"))
	kept := copied(d)
	for _, call := range []func() (api.Dfa, api.Errno){
		func() (api.Dfa, api.Errno) { return mini.Least(d) },
		func() (api.Dfa, api.Errno) { return mini.Map(d, self()) },
	} {
		m, _ := call()
		for i, row := range m.Next {
			_ = append(row, -9)
			for j := range row {
				row[j] = -9 - i
			}
			m.Accept[i] = !m.Accept[i]
		}
		for i, row := range m.Next {
			for _, next := range row {
				if next != -9-i {
					t.Error("two rows share memory")
				}
			}
		}
		if !same(d, kept) {
			t.Fatal("the argument shares memory with the answer")
		}
		if again, e := call(); e != api.OK || !same(again, kept) {
			t.Error("another answer:", show(again), e)
		}
	}
}

// R1: no call keeps anything, so that several may be made at one time.
func TestNothingIsKept(t *testing.T) {
	shared := (&dice{n: 9}).dfa(30, 9)
	turn := (&dice{n: 10}).bytes()
	want, other := least(t, shared), mapped(t, shared, turn)
	var group sync.WaitGroup
	for range 8 {
		group.Go(func() {
			for i := range 40 {
				checkLeast(t, shared, want)
				checkMap(t, shared, turn, other)
				checkWrong(t, api.Dfa{})
				checkMeant(t, (&dice{n: uint64(i)}).dfa(5, 4))
			}
		})
	}
	group.Wait()
}

func FuzzLeast(f *testing.F) {
	f.Add(uint64(1), uint8(3), uint8(3), "abc")
	f.Add(uint64(2), uint8(20), uint8(9), "a\x00\xff")
	f.Fuzz(func(t *testing.T, seed uint64, states, classes uint8, s string) {
		d := &dice{n: seed}
		a := d.dfa(1+int(states)%30, 1+int(classes))
		to := d.bytes()
		checkMeant(t, a)
		checkMeantMap(t, a, to)
		checkTaken(t, a, to, s[:min(len(s), 30)])
		m := least(t, a)
		checkLeast(t, d.blown(m, 1+d.below(6), d.below(40)), m)
	})
}
