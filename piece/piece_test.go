package piece_test

import (
	"math"
	"slices"
	"strings"
	"sync"
	"testing"
	"unsafe"

	"fretsaw/api"
	"fretsaw/dfa"
	"fretsaw/piece"
)

const room = 262144 // bytes of a text that is taken apart, as the chapter writes it

// everything is all 256 bytes.
func everything() string {
	var s strings.Builder
	for b := range 256 {
		s.WriteByte(byte(b))
	}
	return s.String()
}

// check asks for both Split and Texts.
func check(t *testing.T, d api.Dfa, s string, want ...string) {
	t.Helper()
	texts, e := piece.Texts(d, s)
	if e != api.OK || !slices.Equal(texts, want) {
		t.Errorf("Texts(%s, %.80q) = %s, %d; want %s", show(d), s, brief(texts), e, brief(want))
	}
	ends, e := piece.Split(d, s)
	if e != api.OK || !slices.Equal(ends, meantEnds(want)) {
		t.Errorf("Split(%s, %.80q) = %s, %d; want %s", show(d), s, brief(ends), e, brief(meantEnds(want)))
	}
}

// checkFails asks for both Split and Texts, which tell nothing beside an error.
func checkFails(t *testing.T, d api.Dfa, s string, want api.Errno) {
	t.Helper()
	if ends, e := piece.Split(d, s); e != want || len(ends) > 0 {
		t.Errorf("Split(%s, %.20q of %d) = %s, %d; want %d", show(d), s, len(s), brief(ends), e, want)
	}
	if texts, e := piece.Texts(d, s); e != want || len(texts) > 0 {
		t.Errorf("Texts(%s, %.20q of %d) = %s, %d; want %d", show(d), s, len(s), brief(texts), e, want)
	}
}

// checkWhole is P10.2, as far as it can be seen of one text: pieces make up the text, none is empty.
func checkWhole(t *testing.T, d api.Dfa, s string) (ends []int) {
	t.Helper()
	ends, e := piece.Split(d, s)
	texts, f := piece.Texts(d, s)
	if e != api.OK || f != api.OK || len(texts) != len(ends) {
		t.Errorf("of %s, %.80q: %d places, %d; %d texts, %d", show(d), s, len(ends), e, len(texts), f)
		return ends
	}
	if strings.Join(texts, "") != s || slices.Contains(texts, "") {
		t.Errorf("Texts(%s, %.80q) = %s", show(d), s, brief(texts))
	}
	from := 0
	for i, to := range ends {
		if to <= from || to > len(s) || s[from:to] != texts[i] {
			t.Errorf("of %s, %.80q: piece %d from %d to %d is %.80q", show(d), s, i, from, to, texts[i])
			return ends
		}
		from = to
	}
	if from != len(s) {
		t.Errorf("Split(%s, %.80q) ends at %d of %d", show(d), s, from, len(s))
	}
	return ends
}

// checkBehind is P10.2's last sentence: what follows behind each piece is taken apart as if it stood alone.
func checkBehind(t *testing.T, d api.Dfa, s string) {
	t.Helper()
	ends := checkWhole(t, d, s)
	texts, _ := piece.Texts(d, s)
	for i, end := range ends {
		check(t, d, s[end:], texts[i+1:]...)
		rest, e := piece.Split(d, s[end:])
		for j := range rest {
			rest[j] += end
		}
		if e != api.OK || !slices.Equal(rest, ends[i+1:]) {
			t.Errorf("behind %d of %s, %.80q: %s, %d; want %s", end, show(d), s, brief(rest), e, brief(ends[i+1:]))
		}
	}
}

// checkMeant holds both against the chapter's words.
func checkMeant(t *testing.T, d api.Dfa, s string) {
	t.Helper()
	check(t, d, s, meantTexts(d, s)...)
	checkBehind(t, d, s)
}

// checkLongest holds the pieces of a text that is too long for checkMeant against dfa.Longest.
func checkLongest(t *testing.T, d api.Dfa, s string) {
	t.Helper()
	at := 0
	for _, to := range checkWhole(t, d, s) {
		if want := max(dfa.Longest(d, s, at), at+1); to != want {
			t.Errorf("of %s, %.80q: from %d to %d; want %d", show(d), s, at, to, want)
			return
		}
		at = to
	}
}

// P10.1: the chapter's examples, and DOC.md's of pieces.
func TestExamples(t *testing.T) {
	check(t, parsed(t, "[a-z]+|[0-9]{1,2}"), "ab123 c", "ab", "12", "3", " ", "c")
	check(t, parsed(t, "a*b"), "aaab aa", "aaab", " ", "a", "a")
	check(t, parsed(t, "a*"), "baa", "b", "aa")
	check(t, parsed(t, "[a-z]+"), "ab ab", "ab", " ", "ab")
	check(t, parsed(t, "[a-z]+"), "abcab c", "abcab", " ", "c")
	check(t, parsed(t, "a*b"), "aaa", "a", "a", "a")
	ends, e := piece.Split(parsed(t, "[a-z]+|[0-9]{1,2}"), "ab123 c")
	if e != api.OK || !slices.Equal(ends, []int{2, 4, 5, 6, 7}) {
		t.Error(ends, e)
	}
}

// wrong is one of each kind that may not be.
func wrong() []api.Dfa {
	out := []api.Dfa{{}, plain(0, 0), plain(1, 0), plain(401, 1), plain(401, 257), plain(2, 257), {Next: make([][]int, 3), Accept: make([]bool, 3)}}
	for _, change := range []func(d *api.Dfa){
		func(d *api.Dfa) { d.Accept = append(d.Accept, true) },
		func(d *api.Dfa) { d.Accept = d.Accept[:2] },
		func(d *api.Dfa) { d.Accept = nil },
		func(d *api.Dfa) { d.Next = d.Next[:2] },
		func(d *api.Dfa) { d.Next = append(d.Next, []int{0, 1}) },
		func(d *api.Dfa) { d.Next = nil },
		func(d *api.Dfa) { d.Next[0] = nil },
		func(d *api.Dfa) { d.Next[2] = nil },
		func(d *api.Dfa) { d.Next[2] = d.Next[2][:1] },
		func(d *api.Dfa) { d.Next[1] = append(d.Next[1], -1) },
		func(d *api.Dfa) { d.Next[2][0] = 3 },
		func(d *api.Dfa) { d.Next[2][0] = -2 },
		func(d *api.Dfa) { d.Next[0][1] = math.MaxInt },
		func(d *api.Dfa) { d.Next[0][1] = math.MinInt },
		func(d *api.Dfa) { d.Class[0] = 2 },
		func(d *api.Dfa) { d.Class[255] = 2 },
		func(d *api.Dfa) { d.Class['a'] = 255 },
	} {
		d := lengths(1, 2)
		change(&d)
		out = append(out, d)
	}
	return out
}

// P10.1: ErrDfa, whatever the text is: it comes ahead of ErrLong.
func TestWrongDfa(t *testing.T) {
	for _, d := range wrong() {
		if dfa.Right(d) {
			t.Error("may be:", show(d))
		}
		for _, s := range []string{"", "a", "ab", "aaa\x00\xff", strings.Repeat("a", room), strings.Repeat("a", room+1), strings.Repeat("b", 2*room)} {
			checkFails(t, d, s, api.ErrDfa)
		}
	}
}

// P10.1: dfas that may just be.
func TestGreatestDfa(t *testing.T) {
	check(t, plain(1, 1), "ab", "a", "b")
	check(t, plain(400, 256), "ab", "a", "b")
	check(t, lengths(399), strings.Repeat("a", 398), slices.Repeat([]string{"a"}, 398)...)
	check(t, lengths(399), strings.Repeat("a", 401), strings.Repeat("a", 399), "a", "a")
	checkFails(t, lengths(400), strings.Repeat("a", 401), api.ErrDfa)
	wide := plain(400, 256)
	for b := range 256 {
		wide.Class[b] = uint8(b)
		wide.Next[0][b] = b + 1
		wide.Next[b+1][255-b] = 399
	}
	wide.Accept[399] = true
	for b := range 256 {
		pair := string([]byte{byte(b), byte(255 - b)})
		check(t, wide, pair+pair[:1], pair, pair[:1])
	}
}

// P10.1: how long a text may be.
func TestLongText(t *testing.T) {
	if room != 64*api.MaxInput {
		t.Error("64 MaxInput is", 64*api.MaxInput)
	}
	words := parsed(t, "[a-z]+|[0-9]{1,2}")
	for _, d := range []api.Dfa{words, plain(1, 1), ring(1, 0), ring(400, 399), parsed(t, "a*b"), plain(400, 256)} {
		for _, n := range []int{room + 1, room + 2, 2 * room, 1 << 23} {
			checkFails(t, d, strings.Repeat("a", n), api.ErrLong)
		}
	}
	check(t, words, strings.Repeat("a", room), strings.Repeat("a", room))
	check(t, words, strings.Repeat("a", room-1), strings.Repeat("a", room-1))
	check(t, words, strings.Repeat("1", room), slices.Repeat([]string{"11"}, room/2)...)
	check(t, words, strings.Repeat("1", room-1), append(slices.Repeat([]string{"11"}, room/2-1), "1")...)
	check(t, words, strings.Repeat("ab1 ", room/4), slices.Repeat([]string{"ab", "1", " "}, room/4)...)
	check(t, plain(1, 1), strings.Repeat("\xff", room), slices.Repeat([]string{"\xff"}, room)...)
	check(t, plain(400, 256), strings.Repeat("a", room), slices.Repeat([]string{"a"}, room)...)
	check(t, ring(1, 0), strings.Repeat("\x00", room), strings.Repeat("\x00", room))
}

// P1: long texts at which one goes far in vain, from each place on, are taken apart, too.
func TestLongInVain(t *testing.T) {
	s := strings.Repeat("a", room)
	bytes := slices.Repeat([]string{"a"}, room)
	check(t, parsed(t, "a*b"), s, bytes...)
	check(t, parsed(t, "a*b"), s[1:]+"b", s[1:]+"b")
	check(t, parsed(t, "a*b"), s[2:]+"ba", s[2:]+"b", "a")
	check(t, parsed(t, "a|a*b"), s, bytes...)
	check(t, parsed(t, "aa|a*b"), s, slices.Repeat([]string{"aa"}, room/2)...)
	check(t, parsed(t, "aaa|a*b"), s, append(slices.Repeat([]string{"aaa"}, room/3), "a")...)
	check(t, parsed(t, "(a{7}|a{11})*b|a"), s, bytes...)
	never := ring(400, 7)
	never.Accept[7] = false
	check(t, never, s, bytes...)
	most := room/400*400 - 1 // the greatest length to which the ring comes at its last state
	check(t, ring(400, 399), s, append([]string{s[:most]}, bytes[most:]...)...)
}

// P10.1: the empty text has no piece, even if it is taken.
func TestEmptyText(t *testing.T) {
	check(t, plain(1, 1), "")
	check(t, ring(1, 0), "")
	check(t, lengths(0), "")
	check(t, lengths(0, 1), "")
	check(t, parsed(t, "a*"), "")
	check(t, parsed(t, "a+"), "")
	check(t, plain(400, 256), "")
	for i := range 200 {
		check(t, (&dice{n: uint64(i)}).dfa(9, 9), "")
	}
}

// P10.1: where nothing is taken, or the empty text alone, a piece has one byte; where all is, there is one piece.
func TestNothingAndAll(t *testing.T) {
	lost := plain(3, 1)
	lost.Next[0][0], lost.Next[1][0], lost.Accept[2] = 1, 0, true
	begins := plain(2, 1)
	begins.Next[0][0], begins.Next[1][0], begins.Accept[0] = 1, 1, true
	for _, s := range []string{"a", "ab", "aaab", "\x00\xff\x80", "\u00e9\u20ac", everything()} {
		bytes := make([]string, len(s))
		for i := range bytes {
			bytes[i] = s[i : i+1]
		}
		for _, d := range []api.Dfa{plain(1, 1), plain(5, 5), lost, begins, lengths(0), parsed(t, "()"), parsed(t, `[^\x00-\xff]`), parsed(t, "[^b]{0,0}")} {
			check(t, d, s, bytes...)
			checkBehind(t, d, s)
		}
		for _, d := range []api.Dfa{ring(1, 0), parsed(t, `[\x00-\xff]*`), parsed(t, `[\x00-\xff]+`)} {
			check(t, d, s, s)
			checkBehind(t, d, s)
		}
	}
}

// P10.1: the longest counts, also behind texts that are not taken; what is too short for it is given back.
func TestLongestCounts(t *testing.T) {
	check(t, lengths(1, 3), "aa", "a", "a")
	check(t, lengths(1, 3), "aaa", "aaa")
	check(t, lengths(1, 3), "aaaa", "aaa", "a")
	check(t, lengths(1, 3), "aaaaa", "aaa", "a", "a")
	check(t, lengths(1, 3), "aabaaab", "a", "a", "b", "aaa", "b")
	check(t, lengths(0, 5), "aaaaaa", "aaaaa", "a")
	check(t, lengths(0, 5), "aaaabaaaaa", "a", "a", "a", "a", "b", "aaaaa")
	check(t, lengths(2, 5), "aaaa", "aa", "aa")
	check(t, lengths(2, 5), "aaaab", "aa", "aa", "b")
	check(t, lengths(2, 5, 9), "aaaaaaaa", "aaaaa", "aa", "a")
	check(t, lengths(3), "aaaa", "aaa", "a")
	check(t, parsed(t, "a|abc|abcdef"), "abcdeabcdefab", "abc", "d", "e", "abcdef", "a", "b")
	check(t, parsed(t, "ab|a*c"), "aab", "a", "ab")
	check(t, parsed(t, "ab|a*c"), "aabaac", "a", "ab", "aac")
	check(t, parsed(t, "(ab)+|b(ab)*c"), "bababab", "b", "ababab")
	check(t, parsed(t, "(ab)+|b(ab)*c"), "bababc", "bababc")
	check(t, parsed(t, "-?[0-9]+(\\.[0-9]+)?"), "-1.5.2.-x", "-1.5", ".", "2", ".", "-", "x")
	for n := 1; n < 40; n++ {
		for many := range 60 {
			s := strings.Repeat("a", many)
			checkMeant(t, lengths(n), s)
			checkMeant(t, lengths(1, n), s)
			checkMeant(t, lengths(2, 7, n), s+"b"+s)
			checkMeant(t, ring(n, n-1), s)
		}
	}
}

// P10.1: a state at a place may be gone through in vain from one place on, and not be met from the next.
func TestInVain(t *testing.T) {
	for _, x := range []string{"a*b", "a|a*b", "(aa)*b|a", "(aaa)*b|aa", "ab|(ab)*c", "[ab]*c|a", "[ab]*cd|[bc]+|a", "(a|b)*abb|c", "a{3}|a{5}b|a{7}"} {
		d := parsed(t, x)
		for _, s := range []string{"aaaaaaa", "aaaaaab", "ababab", "abababc", "aabbabacabbc", "abcabcdabc", "bbbbcbbbbd", "aaaaaaabaaaa"} {
			for end := range len(s) + 1 {
				checkMeant(t, d, s[:end])
				checkMeant(t, d, s[:end]+s)
			}
		}
	}
}

// P10.1: each byte counts, and characters do not.
func TestAllBytes(t *testing.T) {
	all := everything()
	for b := range 256 {
		one := string([]byte{byte(b)})
		other := string([]byte{byte(b + 1)})
		two := single(one)
		two.Next[1][1] = 1
		check(t, two, other+one+one+one+other+other+one, other, one+one+one, other, other, one)
		check(t, two, one+one, one+one)
		check(t, two, one+all+one, meantTexts(two, one+all+one)...)
		check(t, single(one), all[:b+1]+all[b:], meantTexts(single(one), all[:b+1]+all[b:])...)
	}
	low := parsed(t, `[\x00-\x7f]+`)
	check(t, low, "a\x00b\x80\x7f\xff\x00", "a\x00b", "\x80", "\x7f", "\xff", "\x00")
	check(t, low, "x\u00e9y\u20acz", "x", "\xc3", "\xa9", "y", "\xe2", "\x82", "\xac", "z")
	check(t, parsed(t, `[\x80-\xff]+`), "x\u00e9\u20acy\xff\xfe\xc3", "x", "\u00e9\u20ac", "y", "\xff\xfe\xc3")
	check(t, parsed(t, `\xc3\xa9|\xa9`), "\u00e9\xc3\xc3\xa9\xa9\xc3", "\xc3\xa9", "\xc3", "\xc3\xa9", "\xa9", "\xc3")
	check(t, parsed(t, `\x00+\xff`), "\x00\x00\xff\x00\x00\xff\xff\x00", "\x00\x00\xff", "\x00\x00\xff", "\xff", "\x00")
}

// P10.1 and P10.2: many dfas and texts, against the chapter's words.
func TestMany(t *testing.T) {
	for i := range 6000 {
		d := &dice{n: uint64(i)}
		a := d.dfa(7, 4)
		for range 4 {
			checkMeant(t, a, d.text("abc\x00\xff\xc3\xa9", 14))
		}
	}
	for i := range 60 {
		d := &dice{n: uint64(i) + 1<<32}
		a := d.dfa(400, 256)
		for range 5 {
			checkMeant(t, a, d.text("abcdefgh\x00\xff\x80", 30))
		}
	}
}

// P10.1 and P10.2: every dfa of two states and two classes, at every short text.
func TestEachSmall(t *testing.T) {
	var texts []string
	for n := range 6 {
		for bits := range 1 << n {
			s := []byte(strings.Repeat("a", n))
			for i := range s {
				s[i] += byte(bits >> i & 1)
			}
			texts = append(texts, string(s))
		}
	}
	for n := range 81 * 4 {
		d := plain(2, 2)
		d.Class['b'] = 1
		for i := range 4 {
			d.Next[i/2][i%2] = n/[]int{1, 3, 9, 27}[i]%3 - 1
		}
		d.Accept[0], d.Accept[1] = n/81%2 == 1, n/81/2 == 1
		for _, s := range texts {
			checkMeant(t, d, s)
		}
	}
}

// P10.1 and P10.2: long texts, against dfa.Longest and what follows alone.
func TestManyLong(t *testing.T) {
	for i := range 150 {
		d := &dice{n: uint64(i) + 1<<33}
		a := d.dfa(40, 4)
		s := d.text("abcd", 3000)
		checkLongest(t, a, s)
		ends := checkWhole(t, a, s)
		for range min(3, len(ends)) {
			at := d.below(len(ends))
			rest, e := piece.Split(a, s[ends[at]:])
			for j := range rest {
				rest[j] += ends[at]
			}
			if e != api.OK || !slices.Equal(rest, ends[at+1:]) {
				t.Errorf("behind %d of %s: %s, %d; want %s", ends[at], show(a), brief(rest), e, brief(ends[at+1:]))
			}
		}
	}
	for _, x := range []string{"[a-d]+|[0-9]{1,2}", "a*b|c", "(ab|cd)*d|a", "[abc]*d|b"} {
		a := parsed(t, x)
		for i := range 20 {
			checkLongest(t, a, (&dice{n: uint64(i) + 1<<34}).text("abcd01", 3000))
		}
	}
}

// share tells whether two texts lie in the same memory.
func share(a, b string) bool {
	if a == "" || b == "" {
		return false
	}
	from, to := uintptr(unsafe.Pointer(unsafe.StringData(a))), uintptr(unsafe.Pointer(unsafe.StringData(b)))
	return from < to+uintptr(len(b)) && to < from+uintptr(len(a))
}

// R4: what is answered is new memory, and what is given stays as it is.
func TestAnswersAreTheirOwn(t *testing.T) {
	d := parsed(t, "[a-z]+|[0-9]{1,2}")
	kept := copied(d)
	s := strings.Clone("ab123 cde 45")
	first, _ := piece.Texts(d, s)
	second, _ := piece.Texts(d, s)
	for i, one := range first {
		if share(one, s) || share(one, second[i]) || i > 0 && share(one, first[i-1]) {
			t.Errorf("piece %d, %q, shares its memory", i, one)
		}
	}
	alone, _ := piece.Texts(d, s[:2])
	if share(alone[0], s) {
		t.Error("a piece that is the whole text shares its memory")
	}
	want := []int{2, 4, 5, 6, 9, 10, 12}
	for i := range 3 {
		ends, e := piece.Split(d, s)
		if e != api.OK || !slices.Equal(ends, want) {
			t.Error("Split is another one:", ends, e)
		}
		for j := range ends {
			ends[j] = -7 - i
		}
	}
	if !same(d, kept) || s != "ab123 cde 45" {
		t.Error("what was given was changed")
	}
}

// R1: no call keeps anything, so that several may be made at one time.
func TestNothingIsKept(t *testing.T) {
	shared := parsed(t, "ab|(ab)*c|[a-c]+d")
	var group sync.WaitGroup
	for range 8 {
		group.Go(func() {
			for i := range 40 {
				d := &dice{n: uint64(i)}
				checkMeant(t, shared, d.text("abcd", 20))
				checkMeant(t, d.dfa(9, 4), d.text("abcd", 20))
				checkFails(t, api.Dfa{}, d.text("abcd", 20), api.ErrDfa)
			}
			checkFails(t, shared, strings.Repeat("a", room+1), api.ErrLong)
		})
	}
	group.Wait()
}

func FuzzPieces(f *testing.F) {
	f.Add(uint64(1), uint8(3), uint8(3), "abcab", -1)
	f.Add(uint64(2), uint8(9), uint8(2), "\x00\xff\xc3\xa9", 0)
	f.Fuzz(func(t *testing.T, seed uint64, states, classes uint8, s string, next int) {
		d := &dice{n: seed}
		a := d.dfa(1+int(states), 1+int(classes))
		s = s[:min(len(s), 60)]
		checkMeant(t, a, s)
		a.Next[d.below(len(a.Next))][d.below(len(a.Next[0]))] = next
		if next < -1 || next >= len(a.Next) {
			checkFails(t, a, s, api.ErrDfa)
		} else {
			checkMeant(t, a, s)
		}
	})
}
