package trans_test

import (
	"slices"
	"strings"
	"sync"
	"testing"
	"unsafe"

	"fretsaw/api"
	"fretsaw/trans"
)

const room = 262144 // bytes that may be put

// checkRun asks for one text that is put.
func checkRun(t *testing.T, m api.Machine, s, want string) {
	t.Helper()
	if got, e := trans.Run(m, s); e != api.OK || got != want {
		t.Errorf("Run(%s, %.80q) = %.80q of %d, %d; want %.80q of %d", show(m), s, got, len(got), e, want, len(want))
	}
}

func checkRunFails(t *testing.T, m api.Machine, s string, want api.Errno) {
	t.Helper()
	if got, e := trans.Run(m, s); got != "" || e != want {
		t.Errorf("Run(%s, %.80q of %d) = %.80q of %d, %d; want %d alone", show(m), s, len(s), got, len(got), e, want)
	}
}

// checkWrong asks all about a machine that may not be. The text is not looked at.
func checkWrong(t *testing.T, m api.Machine) {
	t.Helper()
	if meantRight(m) || trans.Right(m) {
		t.Errorf("Right(%s) is true", show(m))
	}
	checkRunFails(t, m, "", api.ErrMachine)
	checkRunFails(t, m, "ab\xff", api.ErrMachine)
	checkRunFails(t, m, strings.Repeat("a", 4097), api.ErrMachine)
	if to, is := trans.Bytes(m); is || to != [256]uint8{} {
		t.Errorf("Bytes(%s) = %v, %t", show(m), to, is)
	}
	if each, end := trans.Grow(m); each != 0 || end != 0 {
		t.Errorf("Grow(%s) = %d, %d", show(m), each, end)
	}
	checkThenFails(t, m, plain(1), api.ErrMachine)
	checkThenFails(t, plain(1), m, api.ErrMachine)
	checkThenFails(t, m, m, api.ErrMachine)
}

// checkRight asks all about a machine that may be, but for Then: P12.6, too.
func checkRight(t *testing.T, m api.Machine, texts ...string) {
	t.Helper()
	if !meantRight(m) || !trans.Right(m) {
		t.Errorf("Right(%s) is false", show(m))
		return
	}
	wantTo, wantIs := meantBytes(m)
	if to, is := trans.Bytes(m); to != wantTo || is != wantIs {
		t.Errorf("Bytes(%s) = %v, %t; want %v, %t", show(m), to, is, wantTo, wantIs)
	}
	wantEach, wantEnd := meantGrow(m)
	each, end := trans.Grow(m)
	if each != wantEach || end != wantEnd {
		t.Errorf("Grow(%s) = %d, %d; want %d, %d", show(m), each, end, wantEach, wantEnd)
	}
	for _, s := range texts {
		want := meantAll(m, s)
		if len(s) > 4096 || len(want) > room {
			checkRunFails(t, m, s, api.ErrLong)
			continue
		}
		checkRun(t, m, s, want)
		if len(want) > each*len(s)+end {
			t.Errorf("Run(%s, %.80q) puts %d bytes: more than %d times %d and %d", show(m), s, len(want), each, len(s), end)
		}
	}
}

// The chapter's own examples, and DOC.md's of a rule.
func TestExamples(t *testing.T) {
	m := built(t, rules("ab", "x", "abc", "y", "c", ""))
	checkRun(t, m, "abcabd", "yxd")
	checkRun(t, joined(t, built(t, rules("a", "bb")), built(t, rules("bb", "c"))), "aab", "ccb")
	to, is := trans.Bytes(built(t, rules("a", "x")))
	for b := range 256 {
		if want := uint8(b); b != 'a' && to[b] != want || b == 'a' && to[b] != 'x' || !is {
			t.Error("Bytes of a to x:", b, to[b], is)
		}
	}
	if to, is := trans.Bytes(built(t, rules("aa", "x"))); is || to != [256]uint8{} {
		t.Error("Bytes of aa to x:", to, is)
	}
	checkRun(t, built(t, rules("A", "a")), "Ab", "ab")
	if _, end := trans.Grow(m); end != 1 {
		t.Error("Grow's end:", end)
	}
}

// P12.1: how many states there may be.
func TestRightStates(t *testing.T) {
	if api.MaxMachine != 1200 || api.MaxTexts != 4096 || api.MaxText != 4096 || api.MaxInput != 4096 {
		t.Error("the limits are", api.MaxMachine, api.MaxTexts, api.MaxText, api.MaxInput)
	}
	checkWrong(t, api.Machine{})
	checkWrong(t, api.Machine{Texts: []string{""}})
	checkWrong(t, plain(0))
	for _, states := range []int{1, 2, 3, 255, 256, 257, 1199, 1200} {
		checkRight(t, plain(states), "", "ab\x00\xff")
		checkRight(t, ring(states), "", "ab\x00\xff")
	}
	for _, states := range []int{1201, 1202, 2400, 5000} {
		checkWrong(t, plain(states))
		checkWrong(t, ring(states))
	}
}

// P12.1: as many rows of Next, rows of Put, and elements of End.
func TestRightCounts(t *testing.T) {
	for _, states := range []int{1, 2, 7, 1200} {
		for _, other := range []int{0, 1, states - 1, states + 1, 2 * states} {
			if other == states {
				continue
			}
			m, more := plain(states), plain(other)
			checkWrong(t, api.Machine{Next: more.Next, Put: m.Put, End: m.End, Texts: m.Texts})
			checkWrong(t, api.Machine{Next: m.Next, Put: more.Put, End: m.End, Texts: m.Texts})
			checkWrong(t, api.Machine{Next: m.Next, Put: m.Put, End: more.End, Texts: m.Texts})
			checkWrong(t, api.Machine{Next: more.Next, Put: more.Put, End: m.End, Texts: m.Texts})
			checkWrong(t, api.Machine{Next: more.Next, Put: m.Put, End: more.End, Texts: m.Texts})
			checkWrong(t, api.Machine{Next: m.Next, Put: more.Put, End: more.End, Texts: m.Texts})
		}
	}
	m := plain(3)
	checkWrong(t, api.Machine{Put: m.Put, End: m.End, Texts: m.Texts})
	checkWrong(t, api.Machine{Next: m.Next, End: m.End, Texts: m.Texts})
	checkWrong(t, api.Machine{Next: m.Next, Put: m.Put, Texts: m.Texts})
	checkWrong(t, api.Machine{Next: m.Next, Put: m.Put, End: m.End})
}

// P12.1: each row has 256 elements.
func TestRightRows(t *testing.T) {
	for _, states := range []int{1, 2, 5, 1200} {
		for _, at := range []int{0, states / 2, states - 1} {
			for _, n := range []int{0, 1, 128, 255, 257, 512, 65536} {
				m := plain(states)
				m.Next[at] = make([]int, n)
				checkWrong(t, m)
				m = plain(states)
				m.Put[at] = make([]int, n)
				checkWrong(t, m)
			}
			m := plain(states)
			m.Next[at] = nil
			checkWrong(t, m)
			m = plain(states)
			m.Put[at] = nil
			checkWrong(t, m)
		}
	}
	wide := plain(1)
	wide.Next[0], wide.Put[0] = make([]int, 257)[:256], make([]int, 512)[:256]
	checkRight(t, wide, "", "ab\xff")
}

// P12.1: the least and the greatest number that may be, and one beyond each: of Next, of Put and of End.
func TestRightElements(t *testing.T) {
	for _, states := range []int{1, 2, 1200} {
		for _, texts := range []int{1, 2, 4096} {
			for _, at := range []int{0, states / 2, states - 1} {
				checkElements(t, states, texts, at)
			}
		}
	}
}

func checkElements(t *testing.T, states, texts, at int) {
	t.Helper()
	m := plain(states)
	m.Texts = slices.Repeat([]string{"x", ""}, (texts+1)/2)[:texts]
	for _, b := range []int{0, 'a', 255} {
		m.Next[at][b], m.Put[at][b], m.End[at] = states-1, 2*texts-1, texts-1
		checkRight(t, m, "", "a\x00\xffa")
		m.Next[at][b], m.Put[at][b], m.End[at] = 0, 0, 0
		checkRight(t, m, "", "a\x00\xffa")
		for _, bad := range beyond(states) {
			m.Next[at][b] = bad
			checkWrong(t, m)
		}
		m.Next[at][b] = 0
		for _, bad := range beyond(2 * texts) {
			m.Put[at][b] = bad
			checkWrong(t, m)
		}
		m.Put[at][b] = 1
	}
	for _, bad := range beyond(texts) {
		m.End[at] = bad
		checkWrong(t, m)
	}
	m.End[at] = 0
	checkRight(t, m)
}

// P12.1: without a text there is nothing that End may be.
func TestRightNoText(t *testing.T) {
	for _, texts := range [][]string{nil, {}} {
		for _, states := range []int{0, 1, 2, 1200} {
			for _, n := range []int{0, 1, -1} {
				m := plain(states)
				m.Texts = texts
				for i := range m.Next {
					m.End[i] = n
				}
				checkWrong(t, m)
				for i := range m.Put {
					m.Put[i] = make([]int, 256)
				}
				checkWrong(t, m)
			}
		}
	}
}

// P12.1: how many texts there may be, and how long.
func TestRightTexts(t *testing.T) {
	long := strings.Repeat("a", 4096)
	m := plain(2)
	for _, texts := range []int{1, 2, 4095, 4096} {
		m.Texts = make([]string, texts)
		checkRight(t, m, "", "ab")
	}
	for _, texts := range []int{4097, 4098, 8192, 100000} {
		m.Texts = make([]string, texts)
		checkWrong(t, m)
		m.Texts[texts-1] = "a"
		checkWrong(t, m)
	}
	for _, at := range []int{0, 1, 2} {
		m.Texts = []string{"", "a", ""}
		m.Texts[at] = long[:4095]
		checkRight(t, m, "", "ab")
		m.Texts[at] = long
		checkRight(t, m, "", "ab")
		for _, n := range []int{1, 2, 4096} {
			m.Texts[at] = long + long[:n]
			checkWrong(t, m) // even if it is never put
		}
		m.Texts[at] = strings.Repeat("\u20ac", 1366) // 4098 bytes, 1366 characters
		checkWrong(t, m)
	}
	m.Texts = slices.Repeat([]string{long}, 4096)
	checkRight(t, m, "")
}

// P12.1: how long a text may be. It is looked at behind the machine.
func TestRunLongText(t *testing.T) {
	s := strings.Repeat("ab\x00\xff", 1025)
	for _, m := range []api.Machine{plain(1), ring(7), always("", ""), always("xy", "z"), count(3, "a")} {
		for _, n := range []int{0, 1, 2, 4095, 4096, 4097, 4100} {
			checkRight(t, m, s[:n])
		}
		checkRunFails(t, m, s[:4097], api.ErrLong)
		checkRunFails(t, m, strings.Repeat("a", 1<<22), api.ErrLong)
	}
	checkRun(t, plain(1), s[:4096], s[:4096])
	checkRun(t, always("", ""), s[:4096], "")
}

// P12.1: how much may be put, byte by byte and at the end.
func TestRunLongPut(t *testing.T) {
	if room != 64*api.MaxInput {
		t.Error("64 MaxInput is", 64*api.MaxInput)
	}
	x := strings.Repeat("x", 64)
	a := strings.Repeat("a", 4096)
	checkRun(t, always(x, ""), a, strings.Repeat("x", room))
	checkRunFails(t, always(x, "e"), a, api.ErrLong)
	checkRun(t, always(x, "e"), a[1:], strings.Repeat("x", room-64)+"e")
	checkRun(t, always(x, strings.Repeat("e", 64)), a[1:], strings.Repeat("x", room-64)+strings.Repeat("e", 64))
	checkRunFails(t, always(x, strings.Repeat("e", 65)), a[1:], api.ErrLong)
	checkRunFails(t, always(x+"x", ""), a, api.ErrLong)
	checkRun(t, always(x+"x", ""), a[:4032], strings.Repeat("x", 65*4032))
	checkRunFails(t, always(x+"x", ""), a[:4033], api.ErrLong)
	checkRun(t, always(a, ""), a[:64], strings.Repeat("a", room))
	checkRunFails(t, always(a, ""), a[:65], api.ErrLong)
	checkRunFails(t, always(a, ""), a, api.ErrLong)
	checkRunFails(t, always(a, "e"), a[:64], api.ErrLong)
	checkRun(t, always(a, a), a[:63], strings.Repeat("a", room))
	checkRunFails(t, always(a, a), a[:64], api.ErrLong)
	self := plain(1) // with the byte itself behind a text
	self.Texts[0] = x[:63]
	self.Texts = append(self.Texts, "", "e")
	self.End[0] = 1
	checkRun(t, self, a, strings.Repeat(x[:63]+"a", 4096))
	self.End[0] = 2
	checkRunFails(t, self, a, api.ErrLong)
	self.End[0] = 1
	self.Put[0]['b'] = 2 // an empty text, and nothing behind it
	checkRun(t, self, a[1:]+"b", strings.Repeat(x[:63]+"a", 4095))
	self.Texts[0] = x
	checkRunFails(t, self, a, api.ErrLong)
	checkRunFails(t, self, a+"b", api.ErrLong)
}

// P12.1: what is put, byte by byte and at the end: of texts, with the byte behind them and without.
func TestRun(t *testing.T) {
	m := plain(2)
	m.Texts = []string{"", "<", ">", "."}
	m.Next[0]['a'], m.Put[0]['a'] = 1, 2 // < alone
	m.Next[1] = slices.Repeat([]int{1}, 256)
	m.Put[1]['b'], m.Next[1]['b'] = 5, 0 // > and b
	m.Put[1]['c'] = 0                    // nothing
	m.End[1] = 3
	checkRun(t, m, "", "")
	checkRun(t, m, "a", "<.")
	checkRun(t, m, "b", "b")
	checkRun(t, m, "abc", "<>bc")
	checkRun(t, m, "aabcbacca", "<a>bcb<a.")
	checkRun(t, m, "\x00a\xffc\x00", "\x00<\xff\x00.")
	m.End[0] = 2
	checkRun(t, m, "", ">")
	checkRun(t, m, "ab", "<>b>")
	all := everything()
	checkRun(t, plain(1), all, all)
	checkRun(t, mapped(func(b byte) byte { return b ^ 0xff }), "\x00\x01\xfe\xff", "\xff\xfe\x01\x00")
	checkRun(t, count(5, "\xff"), all, all+"\xff") // 256 is 1 more than 51 times 5
}

// P12.1, P12.4 to P12.6: many machines, at many texts.
func TestManyMachines(t *testing.T) {
	for i := range 1500 {
		d := &dice{n: uint64(i)}
		bytes := []string{"ab", "abc\x00\xff", everything()}[d.below(3)]
		m := d.machine(9, 12, bytes, d.below(12))
		checkRight(t, m, append(d.texts(5, bytes, 40), "", everything())...)
	}
	for i := range 20 {
		d := &dice{n: uint64(i) + 1<<32}
		m := d.machine(1200, 4096, "abc", 100)
		checkRight(t, m, d.texts(5, "abc", 4096)...)
	}
}

// P12.4: bytes as a text, and as themselves; the byte is the same, however it is put.
func TestBytes(t *testing.T) {
	for i := range 400 {
		d := &dice{n: uint64(i) + 1<<33}
		to, m := d.bytes(1+d.below(6), d.below(4))
		if got, is := trans.Bytes(m); !is || got != to {
			t.Errorf("Bytes(%s) = %v, %t; want %v", show(m), got, is, to)
		}
		checkRight(t, m, d.text(everything(), 20))
		checkOtherwise(t, m)
	}
	if to, is := trans.Bytes(always("x", "")); !is || to != [256]uint8([]byte(strings.Repeat("x", 256))) {
		t.Error("Bytes of x always:", to, is)
	}
	if to, is := trans.Bytes(always("\x00", "")); !is || to != [256]uint8{} {
		t.Error("Bytes of 0 always:", to, is)
	}
	for _, m := range []api.Machine{always("", ""), always("xy", ""), always("x", "y"), always("", "y")} {
		if to, is := trans.Bytes(m); is || to != [256]uint8{} {
			t.Errorf("Bytes(%s) = %v, %t", show(m), to, is)
		}
	}
}

// bytes is some byte for each, and a machine that puts these from all states that are reached; behind them stand some that are not, and do other things, though they lead to those that are.
func (d *dice) bytes(states, more int) (to [256]uint8, m api.Machine) {
	m = ring(states + more)
	m.Texts = []string{"", "xy", "z"}
	for b := range to {
		if to[b] = uint8(b); d.below(2) == 0 {
			to[b] = uint8(d.below(256))
		}
	}
	for b := range 256 {
		m.Texts = append(m.Texts, string([]byte{to[b]}))
		for i := range states {
			if m.Next[i][b] = (i + 1) % states; d.below(3) == 0 {
				m.Next[i][b] = d.below(states)
			}
			if to[b] != uint8(b) || d.below(2) == 0 {
				m.Put[i][b] = 2 * (b + 3)
			}
		}
		for i := range more {
			m.Next[states+i][b], m.Put[states+i][b] = d.below(states+more), d.below(6)
		}
	}
	for i := range more {
		m.End[states+i] = d.below(3)
	}
	return to, m
}

// checkOtherwise changes one thing in one state that is reached: there are no bytes any more.
func checkOtherwise(t *testing.T, m api.Machine) {
	t.Helper()
	reached := meantReached(m)
	for _, state := range []int{reached[0], reached[len(reached)/2], reached[len(reached)-1]} {
		other := copied(m)
		other.End[state] = 1
		checkNoBytes(t, other, "something at the end")
		for _, b := range []int{0, 'a', 255} {
			for _, put := range []int{0, 2, 3, 5, 2*(b+3) + 1} { // nothing, two bytes, three, two, two
				other = copied(m)
				other.Put[state][b] = put
				checkNoBytes(t, other, "not one byte")
			}
			if len(reached) > 1 {
				other = copied(m)
				other.Texts = append(other.Texts, string([]byte{meantPut(m, state, b)[0] + 1}))
				other.Put[state][b] = 2 * (len(other.Texts) - 1)
				checkNoBytes(t, other, "another byte")
			}
		}
	}
	if len(reached) < len(m.Next) { // one more is reached, which puts two bytes
		other := copied(m)
		last := len(m.Next) - 1
		other.Next[reached[len(reached)-1]][7] = last
		other.Put[last][255] = 2
		checkNoBytes(t, other, "one more")
	}
}

func checkNoBytes(t *testing.T, m api.Machine, why string) {
	t.Helper()
	if to, is := trans.Bytes(m); is || to != [256]uint8{} {
		t.Errorf("Bytes(%s) = %v, %t: %s", show(m), to, is, why)
	}
}

// P12.4: a machine of as many states as there may be, of which the last one alone puts another byte; and one of which it is not reached.
func TestBytesFar(t *testing.T) {
	m := ring(1200)
	if to, is := trans.Bytes(m); !is || string(to[:]) != everything() {
		t.Error("Bytes of a ring:", to, is)
	}
	m.Texts = append(m.Texts, "b")
	m.Put[1199]['a'] = 2
	checkNoBytes(t, m, "the last one")
	m.Next[1198] = slices.Repeat([]int{0}, 256)
	if to, is := trans.Bytes(m); !is || string(to[:]) != everything() {
		t.Error("Bytes of a ring that ends ahead of its last state:", to, is)
	}
	m.Next[1198][255] = 1199
	checkNoBytes(t, m, "the last one, over one byte")
	m = plain(3) // state 2 leads to state 0, which does not lead to it
	m.Next[2] = slices.Repeat([]int{0}, 256)
	m.Texts = append(m.Texts, "xy")
	m.Put[2][5], m.End[2] = 2, 1
	checkRight(t, m, "", "ab")
	if to, is := trans.Bytes(m); !is || string(to[:]) != everything() {
		t.Error("Bytes with states that are not reached:", to, is)
	}
}

// P12.5: of any state, whether it is reached or not; the byte itself counts.
func TestGrow(t *testing.T) {
	check := func(m api.Machine, wantEach, wantEnd int) {
		t.Helper()
		if each, end := trans.Grow(m); each != wantEach || end != wantEnd {
			t.Errorf("Grow(%s) = %d, %d; want %d, %d", show(m), each, end, wantEach, wantEnd)
		}
		checkRight(t, m, "", "aba")
	}
	long := strings.Repeat("a", 4096)
	check(plain(1), 1, 0)
	check(always("", ""), 0, 0)
	check(always("", "abc"), 0, 3)
	check(always("abc", ""), 3, 0)
	check(always(long, long), 4096, 4096)
	for _, states := range []int{2, 3, 1200} {
		m := plain(states) // only state 0 is reached
		m.Texts = []string{"", "abc", "abcdefg", long}
		check(m, 1, 0)
		m.End[states-1] = 2
		check(m, 1, 7)
		m.Put[states-1][255] = 2
		check(m, 3, 7)
		m.Put[states-1][254] = 3
		check(m, 4, 7)
		m.Put[states-1][0] = 7
		check(m, 4097, 7)
		m.Put[0][0], m.End[0] = 5, 3
		check(m, 4097, 4096)
	}
	checkWrong(t, api.Machine{})
	wrong := always("abc", "abc")
	wrong.Next[0][255] = 1
	checkWrong(t, wrong)
}

// share tells whether two texts lie in the same memory.
func share(a, b string) bool {
	if a == "" || b == "" {
		return false
	}
	from, to := uintptr(unsafe.Pointer(unsafe.StringData(a))), uintptr(unsafe.Pointer(unsafe.StringData(b)))
	return from < to+uintptr(len(b)) && to < from+uintptr(len(a))
}

// lists is all lists of numbers of machines.
func lists(machines ...api.Machine) (l [][]int) {
	for _, m := range machines {
		l = append(append(append(l, m.Next...), m.Put...), m.End)
	}
	return l
}

// shareLists tells whether any two of these lie in the same memory, with what stands behind them up to their capacity.
func shareLists(l [][]int) bool {
	type span struct{ from, to uintptr }
	var spans []span
	for _, one := range l {
		if one = one[:cap(one)]; len(one) > 0 {
			from := uintptr(unsafe.Pointer(unsafe.SliceData(one)))
			spans = append(spans, span{from, from + uintptr(len(one))*unsafe.Sizeof(0)})
		}
	}
	slices.SortFunc(spans, func(a, b span) int { return int(a.from) - int(b.from) })
	for i := range len(spans) - 1 {
		if spans[i].to > spans[i+1].from {
			return true
		}
	}
	return false
}

// checkOwn asks that what is answered is new memory: of machines, held against others, and against texts.
func checkOwn(t *testing.T, m api.Machine, given []string, others ...api.Machine) {
	t.Helper()
	if shareLists(lists(append(others, m)...)) {
		t.Errorf("%s shares lists", show(m))
	}
	for _, other := range others {
		given = append(given, other.Texts...)
	}
	for i, s := range m.Texts {
		if slices.ContainsFunc(given, func(o string) bool { return share(s, o) }) || slices.ContainsFunc(m.Texts[:i], func(o string) bool { return share(s, o) }) {
			t.Errorf("%s shares the text %q", show(m), s)
		}
	}
}

// R4: what is answered is new memory, and what is given stays as it is.
func TestAnswersAreTheirOwn(t *testing.T) {
	for i := range 40 {
		d := &dice{n: uint64(i) + 1<<34}
		l := d.rules("abc", 6, 3, 3)
		kept := slices.Clone(l)
		var given []string
		for _, r := range l {
			given = append(given, r.From, r.To)
		}
		one, two := built(t, l), built(t, l)
		checkOwn(t, one, given, two)
		if !slices.Equal(l, kept) {
			t.Error("the rules were changed:", l, kept)
		}
		a, b := d.machine(5, 9, "abc", 3), d.machine(5, 9, "abc", 3)
		keptA, keptB := copied(a), copied(b)
		one, _ = trans.Then(a, b)
		two, _ = trans.Then(a, b)
		checkOwn(t, one, nil, two, a, b)
		own, _ := trans.Then(a, a)
		checkOwn(t, own, nil, a)
		s := d.text("abc", 3)
		checkRight(t, a, s)
		for _, m := range []api.Machine{a, plain(1), always("", "z"), always("z", "")} {
			got, _ := trans.Run(m, s)
			again, _ := trans.Run(m, s)
			if share(got, s) || share(got, again) || slices.ContainsFunc(m.Texts, func(o string) bool { return share(got, o) }) {
				t.Errorf("Run(%s, %q) shares its memory", show(m), s)
			}
		}
		if !same(a, keptA) || !same(b, keptB) {
			t.Error("the machines were changed:", show(a), show(b))
		}
	}
}

// R1: no call keeps anything, so that several may be made at one time, and the same is answered again.
func TestNothingIsKept(t *testing.T) {
	l := rules("ab", "x", "abc", "y", "c", "", "aa", "bb")
	a, b := built(t, l), built(t, rules("xb", "c", "bb", ""))
	c := joined(t, a, b)
	var group sync.WaitGroup
	for range 8 {
		group.Go(func() {
			for i := range 10 {
				d := &dice{n: uint64(i) + 1<<35}
				checkBuild(t, d.rules("abc", 5, 3, 3), d.texts(5, "abc", 20)...)
				checkThen(t, d.machine(3, 5, "abc", 3), d.machine(3, 5, "abc", 3), d.texts(5, "abc", 20)...)
				if !same(built(t, l), a) || !same(joined(t, a, b), c) {
					t.Error("another machine")
				}
				checkRight(t, c, d.texts(5, "abcx", 20)...)
				checkWrong(t, plain(0))
			}
		})
	}
	group.Wait()
}
