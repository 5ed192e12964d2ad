package trans_test

import (
	"strings"
	"testing"

	"fretsaw/api"
	"fretsaw/trans"
)

// joined is the machine of two that must have one.
func joined(t *testing.T, a, b api.Machine) api.Machine {
	t.Helper()
	m, e := trans.Then(a, b)
	if e != api.OK || !meantRight(m) || !trans.Right(m) {
		t.Fatalf("Then(%s, %s) = %s, %d", show(a), show(b), show(m), e)
	}
	return m
}

func checkThenFails(t *testing.T, a, b api.Machine, want api.Errno) {
	t.Helper()
	if m, e := trans.Then(a, b); e != want || !empty(m) {
		t.Errorf("Then(%s, %s) = %s, %d; want %d alone", show(a), show(b), show(m), e, want)
	}
}

// little tells of two machines whether they must be made one.
func little(a, b api.Machine) bool {
	for _, m := range []api.Machine{a, b} {
		for _, s := range m.Texts {
			if len(s) > 8 {
				return false
			}
		}
	}
	return min(len(a.Next), len(b.Next)) == 1 && max(len(a.Next), len(b.Next)) <= 10
}

// checkThen asks of two machines that may be that one puts what both put, one behind the other; or ErrStates, if they are not little. It tells whether there is one.
func checkThen(t *testing.T, a, b api.Machine, texts ...string) bool {
	t.Helper()
	m, e := trans.Then(a, b)
	if e == api.ErrStates && empty(m) && !little(a, b) {
		return false
	}
	if e != api.OK || !meantRight(m) || !trans.Right(m) {
		t.Errorf("Then(%s, %s) = %s, %d", show(a), show(b), show(m), e)
		return false
	}
	for _, s := range texts {
		between := meantAll(a, s)
		want := meantAll(b, between)
		if got := meantAll(m, s); got != want {
			t.Errorf("Then(%s, %s) puts %.80q of %.80q; want %.80q", show(a), show(b), got, s, want)
		}
		if len(s) <= 4096 && len(between) <= 4096 && len(want) <= room {
			checkRun(t, a, s, between)
			checkRun(t, b, between, want)
			checkRun(t, m, s, want)
		}
	}
	return true
}

// P12.3: one machine of the two that may not be, or both.
func TestThenWrong(t *testing.T) {
	wrong := []api.Machine{{}, plain(0), plain(1201), {Texts: []string{""}}}
	for _, change := range []func(m *api.Machine){
		func(m *api.Machine) { m.Next[1][255] = 2 },
		func(m *api.Machine) { m.Next[0][0] = -1 },
		func(m *api.Machine) { m.Put[1][0] = 2 },
		func(m *api.Machine) { m.Put[0][255] = -1 },
		func(m *api.Machine) { m.End[1] = 1 },
		func(m *api.Machine) { m.End[0] = -1 },
		func(m *api.Machine) { m.Texts = nil },
		func(m *api.Machine) { m.Next = m.Next[:1] },
		func(m *api.Machine) { m.Put[1] = m.Put[1][:255] },
		func(m *api.Machine) { m.Texts = append(m.Texts, strings.Repeat("a", 4097)) },
		func(m *api.Machine) { m.Texts = make([]string, 4097) },
	} {
		m := plain(2)
		change(&m)
		wrong = append(wrong, m)
	}
	great := count(48, "a") // with a second one of 25 too many, if these may be
	for _, m := range wrong {
		for _, right := range []api.Machine{plain(1), plain(1200), great, always("x", "y")} {
			checkThenFails(t, m, right, api.ErrMachine)
			checkThenFails(t, right, m, api.ErrMachine)
		}
		for _, other := range wrong {
			checkThenFails(t, m, other, api.ErrMachine)
		}
	}
}

// P12.3: one machine that changes nothing, ahead or behind.
func TestThenSelf(t *testing.T) {
	for i := range 200 {
		d := &dice{n: uint64(i) + 1<<44}
		m := d.machine(6, 9, "abc\x00\xff", 8)
		texts := append(d.texts(5, "abc\x00\xff", 20), everything())
		if !checkThen(t, m, plain(1), texts...) || !checkThen(t, plain(1), m, texts...) {
			t.Error("not made:", show(m))
		}
	}
}

// P12.3: what is put at the end goes through the second one, too, and its own end stands behind that.
func TestThenEnd(t *testing.T) {
	checkRun(t, joined(t, always("a", "b"), always("x", "y")), "", "xy")
	checkRun(t, joined(t, always("a", "b"), always("x", "y")), "12", "xxxy")
	checkRun(t, joined(t, always("", "b"), always("x", "")), "12", "x")
	checkRun(t, joined(t, always("ab", ""), always("", "y")), "12", "y")
	checkRun(t, joined(t, always("", "aab"), built(t, rules("aa", "x", "bc", "y"))), "12", "xb")
	checkRun(t, joined(t, built(t, rules("bc", "")), built(t, rules("ab", "x", "aa", "y"))), "abca", "y")
	checkRun(t, joined(t, built(t, rules("ab", "")), built(t, rules("aa", "y", "aab", "z"))), "aaba", "y")
	checkRun(t, joined(t, count(7, "a"), count(5, "b")), "1234", "1234aaaabbb")
	checkThen(t, count(7, "a"), count(5, "b"), short("ab", 6)...)
	checkThen(t, count(5, "a"), count(5, "a"), everything(), everything()[:99])
}

// P12.3: two lists of rules, one behind the other.
func TestThenRules(t *testing.T) {
	for i := range 500 {
		d := &dice{n: uint64(i) + 1<<45}
		bytes := []string{"ab", "abc", "a\x00\xff"}[d.below(3)]
		first, second := d.rules(bytes, 4, 3, 4), d.rules(bytes, 4, 3, 4)
		texts := d.texts(8, bytes, 14)
		m, e := trans.Then(built(t, first), built(t, second))
		if e != api.OK {
			t.Errorf("Then of %q and %q: %d", first, second, e)
			continue
		}
		for _, s := range append(texts, d.about(first, bytes, 6), d.about(second, bytes, 6)) {
			checkRun(t, m, s, meantRewrite(second, meantRewrite(first, s)))
		}
	}
}

// P12.3: many machines and texts; one of a single state and both of at most 10 states, with texts of at most 8 bytes, are always made one.
func TestThenMany(t *testing.T) {
	made := 0
	for i := range 700 {
		d := &dice{n: uint64(i) + 1<<46}
		bytes := []string{"ab", "abc\x00\xff", everything()}[d.below(3)]
		a, b := d.machine(10, 300, bytes, 8), d.machine(1, 300, bytes, 8)
		texts := append(d.texts(6, bytes, 20), "")
		checkThen(t, a, b, texts...)
		checkThen(t, b, a, texts...)
		if c := d.machine(6, 9, bytes, 12); checkThen(t, a, c, texts...) && checkThen(t, c, a, texts...) {
			made++
		}
	}
	if made < 100 {
		t.Error("too few of several states were tried:", made)
	}
}

// P12.3: little ones of as many texts as there may be, each of 8 bytes, one for each state and byte.
func TestThenLittle(t *testing.T) {
	d := &dice{n: 1 << 47}
	wide := func(states int) api.Machine {
		m := ring(states)
		for i := range states {
			for b := range 256 {
				m.Next[i][b] = d.below(states)
				m.Put[i][b] = 2*len(m.Texts) + d.below(2)
				m.Texts = append(m.Texts, string([]byte{byte(i), byte(b), byte(d.below(256)), 'a', 'b', 'c', byte(d.below(256)), 'd'}))
			}
			m.End[i] = len(m.Texts) - 1 - d.below(256)
		}
		for len(m.Texts) < 4096 {
			m.Texts = append(m.Texts, "")
		}
		return m
	}
	a, b := wide(10), wide(1)
	for _, texts := range [][]string{{"", everything()}, d.texts(9, everything(), 40)} {
		if !checkThen(t, a, b, texts...) || !checkThen(t, b, a, texts...) || !checkThen(t, b, b, texts...) {
			t.Error("not made")
		}
	}
	if m := joined(t, a, b); len(m.Texts) < 2000 {
		t.Error("this shows too little:", show(m))
	}
}

// P12.3: as many states as there may be, and more; only those are counted that are reached.
func TestThenStates(t *testing.T) {
	texts := []string{"", "a", "abc", everything(), strings.Repeat("a", 1199), strings.Repeat("ab", 600), strings.Repeat("a", 1201)}
	if !checkThen(t, count(48, "a"), count(25, "b"), texts...) { // 1200: no number divides both
		t.Error("1200 states are not made")
	}
	checkThenFails(t, count(41, "a"), count(30, "b"), api.ErrStates) // 1230, and each of them puts something else
	checkThenFails(t, count(35, "a"), count(36, "b"), api.ErrStates)
	checkThenFails(t, count(1200, "a"), count(1199, "b"), api.ErrStates)
	if !checkThen(t, count(1200, "a"), count(600, "b"), texts...) || !checkThen(t, count(30, "a"), count(1200, "b"), texts...) {
		t.Error("1200 states, where one divides the other, are not made")
	}
	loose := plain(1200) // one state of 1200 is reached
	if !checkThen(t, loose, count(1200, "a"), texts...) || !checkThen(t, count(1200, "a"), loose, texts...) || !checkThen(t, loose, loose, texts...) {
		t.Error("states that are not reached are counted")
	}
}

// P12.3: as many texts as there may be, and as long ones, and more: what is made may be, or it is ErrStates.
func TestThenTexts(t *testing.T) {
	x := strings.Repeat("x", 64)
	for _, n := range []int{1, 63, 64} {
		if !checkThen(t, always(x[:n], x), always(x, ""), "", "ab", everything()) {
			t.Error("texts of at most 4096 bytes are not made:", n)
		}
	}
	checkThen(t, always(x+"x", ""), always(x, ""), "", "ab")
	checkThen(t, always(x, x), always(x, "y"), "", "ab")
	checkThen(t, always("", strings.Repeat("a", 4096)), always("bb", ""), "", "ab")
	long := strings.Repeat("a", 4096)
	checkThen(t, always(long, long), always(long, long), "", "a")
	if !checkThen(t, always(long, long), plain(1), "", "ab") || !checkThen(t, plain(1), always(long, long), "", "ab") || !checkThen(t, always(long, long), always("", long), "", "ab") {
		t.Error("texts of 4096 bytes are not made")
	}
	self := plain(1) // the text and the byte itself: 4097 bytes
	self.Texts = []string{long, ""}
	self.End[0] = 1
	if !checkThen(t, self, plain(1), "", "ab", everything()[:70]) || !checkThen(t, plain(1), self, "", "ab") {
		t.Error("texts of 4096 bytes, and a byte behind them, are not made")
	}
	checkThen(t, self, mapped(func(b byte) byte { return b + 1 }), "", "ab")
	late := plain(2) // goes on behind 4097 bytes, over a byte at which nothing is put
	late.Texts = []string{"", long, "end"}
	late.Put[0]['x'], late.Put[0]['1'], late.Next[0]['1'], late.End[1] = 3, 0, 1, 2
	if !checkThen(t, built(t, rules("x", "x1")), late, "", "x", "xx", "ax1a", "x1x") {
		t.Error("texts of 4096 bytes, and a byte behind them that is not the last one, are not made")
	}
	few, many := 0, 0
	for states := 2; states < 20; states++ { // each state puts something else at each byte
		a := ring(states)
		for i := range states {
			a.Texts = append(a.Texts, string([]byte{byte(i)}))
			for b := range 256 {
				a.Put[i][b] = 2*(i+1) + 1
			}
		}
		if checkThen(t, a, mapped(func(b byte) byte { return b ^ 0x55 }), "", "ab", everything()) {
			few++
		} else {
			many++
		}
	}
	if few == 0 || many == 0 {
		t.Error("these show too little:", few, many)
	}
}

// P12.3: three in a row are the same, whichever two are made one first.
func TestThenThree(t *testing.T) {
	for i := range 150 {
		d := &dice{n: uint64(i) + 1<<48}
		a, b, c := d.machine(3, 6, "abc", 3), d.machine(3, 6, "abc", 3), d.machine(3, 6, "abc", 3)
		left, right := joined(t, joined(t, a, b), c), joined(t, a, joined(t, b, c))
		for _, s := range d.texts(8, "abc", 12) {
			want := meantAll(c, meantAll(b, meantAll(a, s)))
			if meantAll(left, s) != want || meantAll(right, s) != want {
				t.Errorf("three of %s, %s, %s put %q and %q of %q; want %q", show(a), show(b), show(c), meantAll(left, s), meantAll(right, s), s, want)
			}
		}
	}
}

// P12.4: bytes behind bytes are bytes.
func TestThenBytes(t *testing.T) {
	up, turn := func(b byte) byte { return b + 1 }, func(b byte) byte { return b ^ 0x20 }
	to, is := trans.Bytes(joined(t, mapped(up), mapped(turn)))
	for b, got := range to {
		if got != turn(up(byte(b))) {
			t.Error("Bytes:", b, got)
		}
	}
	if !is {
		t.Error("no bytes")
	}
	if to, is := trans.Bytes(joined(t, mapped(up), mapped(func(b byte) byte { return b - 1 }))); !is || string(to[:]) != everything() {
		t.Error("Bytes up and down:", to, is)
	}
	if to, is := trans.Bytes(joined(t, built(t, rules("a", "b")), built(t, rules("b", "c")))); !is || to['a'] != 'c' || to['b'] != 'c' || to['c'] != 'c' || to['d'] != 'd' {
		t.Error("Bytes of a to b, b to c:", to, is)
	}
}

func FuzzThen(f *testing.F) {
	f.Add(uint64(1), uint64(2), "ab")
	f.Add(uint64(77), uint64(5), "\x00\xff")
	f.Fuzz(func(t *testing.T, one, two uint64, s string) {
		s = s[:min(len(s), 60)]
		d, e := &dice{n: one}, &dice{n: two}
		checkThen(t, d.machine(4, 9, s+"a", 4), e.machine(4, 9, s+"a", 4), s, s+s, everything())
		checkThen(t, d.machine(10, 99, s+"a", 8), e.machine(1, 99, s+"a", 8), s, s+s)
	})
}
