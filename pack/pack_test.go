package pack_test

import (
	"encoding/binary"
	"hash/crc32"
	"math"
	"slices"
	"strings"
	"sync"
	"testing"
	"unsafe"

	"fretsaw/api"
	"fretsaw/pack"
	"fretsaw/wire"
)

// mark is what each pack begins with.
const mark = "FSAW\x01"

// number and body are written by the library, not by the program.
func number(n uint64) string { return string(binary.AppendUvarint(nil, n)) }

func body(t string) string { return number(uint64(len(t))) + t }

// seal puts the sum that fits behind a text.
func seal(s string) string {
	return string(binary.LittleEndian.AppendUint32([]byte(s), crc32.ChecksumIEEE([]byte(s))))
}

// sealed is a pack, or what looks like one: the mark, these bytes, and the sum that fits.
func sealed(inner ...string) string { return seal(mark + strings.Join(inner, "")) }

// meantPack is the chapter's word PACK.
func meantPack(l []api.Section) string {
	s := number(uint64(len(l)))
	for _, one := range l {
		s += number(one.Kind) + body(one.Body)
	}
	return sealed(s)
}

func together(l []api.Section) int {
	n := 0
	for _, one := range l {
		n += len(one.Body)
	}
	return n
}

// meantPut is P4.1.
func meantPut(l []api.Section) (string, api.Errno) {
	if len(l) > 64 || together(l) > 8388608 {
		return "", api.ErrLong
	}
	for i := 1; i < len(l); i++ {
		if l[i].Kind <= l[i-1].Kind {
			return "", api.ErrArg
		}
	}
	return meantPack(l), api.OK
}

// meantGet is P4.2, in its order.
func meantGet(s string) ([]api.Section, api.Errno) {
	if len(s) < 9 {
		return nil, api.ErrShort
	}
	if s[:5] != mark {
		return nil, api.ErrMagic
	}
	s, last := s[:len(s)-4], s[len(s)-4:]
	if binary.LittleEndian.Uint32([]byte(last)) != crc32.ChecksumIEEE([]byte(s)) {
		return nil, api.ErrSum
	}
	many, at, e := wire.Get(s, 5)
	if e != api.OK {
		return nil, e
	}
	if many > 64 {
		return nil, api.ErrLong
	}
	var l []api.Section
	for i := range int(many) {
		var one api.Section
		if one.Kind, at, e = wire.Get(s, at); e != api.OK {
			return nil, e
		}
		if i > 0 && one.Kind <= l[i-1].Kind {
			return nil, api.ErrForm
		}
		if one.Body, at, e = wire.GetText(s, at, 8388608); e != api.OK {
			return nil, e
		}
		l = append(l, one)
	}
	if at != len(s) {
		return nil, api.ErrForm
	}
	if together(l) > 8388608 {
		return nil, api.ErrLong
	}
	return l, api.OK
}

func short(s string) string {
	if len(s) > 80 {
		return s[:80] + ".."
	}
	return s
}

func checkPut(t *testing.T, name string, l []api.Section) {
	t.Helper()
	s, e := pack.Put(l)
	want, we := meantPut(l)
	if s != want || e != we {
		t.Errorf("%s: Put = % X, %d; want % X, %d", name, short(s), e, short(want), we)
	}
}

// wantPut also says which error it is, so that the definition above can't be wrong in the same way.
func wantPut(t *testing.T, name string, l []api.Section, we api.Errno) {
	t.Helper()
	checkPut(t, name, l)
	if s, e := pack.Put(l); e != we || (e != api.OK && s != "") {
		t.Errorf("%s: Put = % X, %d; want %d", name, short(s), e, we)
	}
}

func checkGet(t *testing.T, s string) {
	t.Helper()
	l, e := pack.Get(s)
	want, we := meantGet(s)
	if !slices.Equal(l, want) || e != we {
		t.Errorf("Get(% X) = %d sections, %d; want %d, %d", short(s), len(l), e, len(want), we)
	}
}

func wantGet(t *testing.T, name, s string, we api.Errno) {
	t.Helper()
	checkGet(t, s)
	if l, e := pack.Get(s); e != we || (e != api.OK && len(l) > 0) {
		t.Errorf("%s: Get(% X) = %d sections, %d; want %d", name, short(s), len(l), e, we)
	}
}

// row is so many sections whose kinds rise from one on, each with the same body.
func row(n int, first uint64, text string) []api.Section {
	var l []api.Section
	for i := range n {
		l = append(l, api.Section{Kind: first + uint64(i), Body: text})
	}
	return l
}

// kinds are sections of these kinds, with bodies that tell their places.
func kinds(l ...uint64) []api.Section {
	var out []api.Section
	for i, k := range l {
		out = append(out, api.Section{Kind: k, Body: strings.Repeat("x", i)})
	}
	return out
}

// bodies are sections with bodies of these lengths.
func bodies(l ...int) []api.Section {
	var out []api.Section
	for i, n := range l {
		out = append(out, api.Section{Kind: uint64(i), Body: strings.Repeat("\x00", n)})
	}
	return out
}

// lists may all be put.
func lists() [][]api.Section {
	return [][]api.Section{
		nil,
		{},
		kinds(0),
		kinds(1),
		kinds(math.MaxUint64),
		kinds(0, math.MaxUint64),
		kinds(math.MaxUint64-1, math.MaxUint64),
		kinds(0, 1, 2, 126, 127, 128, 129, 300, 16383, 16384, 1<<32, 1<<63-1, 1<<63, math.MaxUint64),
		bodies(0, 0, 0),
		bodies(1, 0, 127, 128, 0, 129),
		bodies(16383, 16384),
		row(63, 0, "a"),
		row(64, 0, ""),
		row(64, math.MaxUint64-63, "\xFF\x80\x00"),
		{{Kind: 1, Body: mark}, {Kind: 2, Body: sealed("\x00")}},
		{{Kind: 7, Body: "a\x00\xFF\r\n\u00e9"}, {Kind: 9, Body: string(rune(0)) + "b"}},
	}
}

// The chapter's examples, and one more whose bytes are written out whole.
func TestExamples(t *testing.T) {
	none := "FSAW\x01\x00\xE5\xCB\x30\x44"
	if s, e := pack.Put(nil); s != none || e != api.OK {
		t.Errorf("% X, %d", s, e)
	}
	if s, e := pack.Put([]api.Section{{Kind: 1, Body: "a"}, {Kind: 1, Body: "b"}}); s != "" || e != api.ErrArg {
		t.Errorf("% X, %d", s, e)
	}
	if l, e := pack.Get("FSAW"); len(l) != 0 || e != api.ErrShort {
		t.Error(l, e)
	}
	if l, e := pack.Get("XSAW12345"); len(l) != 0 || e != api.ErrMagic {
		t.Error(l, e)
	}
	if l, e := pack.Get(none); len(l) != 0 || e != api.OK {
		t.Error(l, e)
	}
	two := []api.Section{{Kind: 1, Body: "a"}, {Kind: 300, Body: ""}}
	bytes := "FSAW\x01\x02\x01\x01a\xAC\x02\x00\x39\x92\x5B\xEE"
	if s, e := pack.Put(two); s != bytes || e != api.OK {
		t.Errorf("% X, %d", s, e)
	}
	if l, e := pack.Get(bytes); !slices.Equal(l, two) || e != api.OK {
		t.Error(l, e)
	}
}

// P4.1 by the word PACK.
func TestPutIsThePack(t *testing.T) {
	for _, l := range lists() {
		wantPut(t, "a list that may be", l, api.OK)
	}
}

// P4.1: how many sections.
func TestPutHowMany(t *testing.T) {
	for n := range 65 {
		wantPut(t, "up to 64", row(n, 3, "ab"), api.OK)
	}
	for _, n := range []int{65, 66, 127, 128, 256, 1000, 100000} {
		wantPut(t, "more than 64", row(n, 3, ""), api.ErrLong)
	}
}

// P4.1: bytes of all bodies together, wherever they stand.
func TestPutHowLong(t *testing.T) {
	const room = 8388608
	tests := []struct {
		name string
		l    []api.Section
		e    api.Errno
	}{
		{"one", bodies(room), api.OK},
		{"one, and one more", bodies(room + 1), api.ErrLong},
		{"at the end", bodies(0, 0, room), api.OK},
		{"at the end, and one more", bodies(0, 1, room), api.ErrLong},
		{"halves", bodies(room/2, room/2), api.OK},
		{"halves, and one more", bodies(room/2, room/2, 1), api.ErrLong},
		{"halves, one less", bodies(room/2, room/2-1), api.OK},
		{"first one, then nothing", bodies(room, 0, 0), api.OK},
		{"first one, then one", bodies(room, 0, 1), api.ErrLong},
		{"each within", bodies(room, room), api.ErrLong},
		{"64", row(64, 0, strings.Repeat("z", room/64)), api.OK},
		{"64, and one more", row(64, 0, strings.Repeat("z", room/64+1)), api.ErrLong},
	}
	for _, x := range tests {
		wantPut(t, x.name, x.l, x.e)
	}
}

// P4.1: kinds.
func TestPutKinds(t *testing.T) {
	rise := [][]uint64{{0}, {0, 1}, {5, 9, 10}, {127, 128}, {1<<63 - 1, 1 << 63}, {math.MaxInt64, math.MaxUint64}, {math.MaxUint64}, {0, math.MaxUint64}}
	for _, k := range rise {
		wantPut(t, "rise", kinds(k...), api.OK)
	}
	not := [][]uint64{
		{0, 0}, {1, 1}, {1, 0}, {2, 1}, {300, 299}, {128, 127},
		{math.MaxUint64, math.MaxUint64}, {math.MaxUint64, 0}, {math.MaxUint64, 1}, {math.MaxUint64, math.MaxUint64 - 1},
		{1 << 63, 1<<63 - 1}, {1 << 63, 0}, {math.MaxUint64, 1 << 63},
		{0, 1, 1}, {0, 2, 1}, {1, 0, 2}, {1, 1, 2}, {5, 6, 5, 7}, {3, 4, 3},
	}
	for _, k := range not {
		wantPut(t, "do not rise", kinds(k...), api.ErrArg)
	}
	for at := 1; at < 64; at++ {
		l := row(64, 10, "k")
		l[at].Kind = l[at-1].Kind
		wantPut(t, "one the same", l, api.ErrArg)
		l[at].Kind--
		wantPut(t, "one falls", l, api.ErrArg)
	}
}

// P4.1: ErrLong is named first.
func TestPutOrder(t *testing.T) {
	many := row(65, 0, "")
	for i := range many {
		many[i].Kind = 7
	}
	wantPut(t, "too many, the same kind", many, api.ErrLong)
	last := row(65, 0, "")
	last[1].Kind = 0
	wantPut(t, "too many, two the same", last, api.ErrLong)
	long := bodies(1, 2, 8388608)
	long[1].Kind = 0
	wantPut(t, "too long behind kinds that are the same", long, api.ErrLong)
	first := bodies(8388609, 0, 0)
	first[2].Kind = 0
	wantPut(t, "too long ahead of kinds that fall", first, api.ErrLong)
	room := bodies(8388608, 0)
	room[1].Kind = 0
	wantPut(t, "just as long as may be, the same kind", room, api.ErrArg)
}

// P4.2: fewer than nine bytes, whatever they are.
func TestGetShort(t *testing.T) {
	for _, s := range []string{sealed("\x00"), "XSAW\x01\x00\x00\x00\x00", strings.Repeat("\x00", 9), strings.Repeat("\xFF", 9), seal("FSAW")} {
		for n := range 9 {
			if n <= len(s) {
				wantGet(t, "cut", s[:n], api.ErrShort)
			}
		}
	}
	wantGet(t, "nine with the sum", sealed(), api.ErrShort)
	wantGet(t, "nine without it", mark+"\x00\x00\x00\x00", api.ErrSum)
	wantGet(t, "nine without the mark", "FSAX\x01\x00\x00\x00\x00", api.ErrMagic)
}

// P4.2: each byte of the mark, made each other one, whether the sum fits or not.
func TestGetMark(t *testing.T) {
	for _, l := range lists()[:8] {
		good := meantPack(l)
		for at := range 5 {
			for b := range 256 {
				if good[at] == byte(b) {
					continue
				}
				bad := good[:at] + string([]byte{byte(b)}) + good[at+1:]
				wantGet(t, "the sum does not fit", bad, api.ErrMagic)
				wantGet(t, "the sum fits", seal(bad[:len(bad)-4]), api.ErrMagic)
			}
		}
	}
	for _, bad := range []string{" FSAW\x01\x00", "SAWF\x01\x00", "fsaw\x01\x00", "FSAW\x00\x00", "FSAW\x02\x00", "FSAW1\x00"} {
		wantGet(t, "no mark", seal(bad), api.ErrMagic)
	}
}

// P4.2: each byte of the sum, made each other one; and sums that are written in another way.
func TestGetSum(t *testing.T) {
	for _, l := range lists() {
		good := meantPack(l)
		for at := len(good) - 4; at < len(good); at++ {
			for b := range 256 {
				if good[at] != byte(b) {
					wantGet(t, "a byte of the sum", good[:at]+string([]byte{byte(b)})+good[at+1:], api.ErrSum)
				}
			}
		}
		turned := []byte(good)
		slices.Reverse(turned[len(good)-4:])
		wantGet(t, "highest first", string(turned), api.ErrSum)
		wantGet(t, "one byte less", good[:len(good)-1], api.ErrSum)
		wantGet(t, "one byte more", good+"\x00", api.ErrSum)
	}
}

func want(is bool, yes, no api.Errno) api.Errno {
	if is {
		return yes
	}
	return no
}

// over is a number that has no room.
const over = "\xFF\xFF\xFF\xFF\xFF\xFF\xFF\xFF\xFF\x02"

// high is ten bytes of 128 or more.
const high = "\x80\x80\x80\x80\x80\x80\x80\x80\x80\x80"

// P4.2: numbers and bodies that wire refuses, with a sum that fits.
func TestGetWhatWireRefuses(t *testing.T) {
	tests := []struct {
		name, inner string
		e           api.Errno
	}{
		{"no count", "", api.ErrShort},
		{"a count cut", "\x80", api.ErrShort},
		{"a count cut at nine", high[:9], api.ErrShort},
		{"a count of ten", high, api.ErrForm},
		{"a count with a 0", "\x80\x00", api.ErrForm},
		{"a count of one with a 0", "\x81\x00" + "\x01\x00", api.ErrForm},
		{"a count above", over, api.ErrForm},
		{"no kind", "\x01", api.ErrShort},
		{"a kind cut", "\x01\x80", api.ErrShort},
		{"a kind of ten", "\x01" + high, api.ErrForm},
		{"a kind with a 0", "\x01\x81\x00\x00", api.ErrForm},
		{"a kind above", "\x01" + over + "\x00", api.ErrForm},
		{"no body", "\x01\x05", api.ErrShort},
		{"a length cut", "\x01\x05\x80", api.ErrShort},
		{"a length of ten", "\x01\x05" + high, api.ErrForm},
		{"a length with a 0", "\x01\x05\x81\x00a", api.ErrForm},
		{"a length above", "\x01\x05" + over, api.ErrForm},
		{"a body cut", "\x01\x05\x03ab", api.ErrShort},
		{"a body of one that is not there", "\x01\x05\x01", api.ErrShort},
		{"a body of four that is not there", "\x01\x05\x04", api.ErrShort},
		{"a body up to the sum's end", "\x01\x05\x06ab", api.ErrShort},
		{"a body of MaxPack that is not there", "\x01\x05" + number(8388608), api.ErrShort},
		{"a body of one more that is not there", "\x01\x05" + number(8388609), api.ErrLong},
		{"a body of 2^63", "\x01\x05" + number(1<<63), api.ErrLong},
		{"a body of 2^64 - 1", "\x01\x05" + number(math.MaxUint64) + "a", api.ErrLong},
		{"no second kind", "\x02\x01\x01a", api.ErrShort},
		{"no second body", "\x02\x01\x01a\x02", api.ErrShort},
		{"a second kind with a 0", "\x02\x01\x01a\x82\x00\x00", api.ErrForm},
		{"a second body cut", "\x02\x01\x01a\x02\x02b", api.ErrShort},
		{"a second body of one more", "\x02\x01\x01a\x02" + number(8388609), api.ErrLong},
	}
	for _, x := range tests {
		wantGet(t, x.name, sealed(x.inner), x.e)
	}
	tooLong := strings.Repeat("\x01", 8388609)
	wantGet(t, "a body of MaxPack", sealed("\x01\x05", body(tooLong[1:])), api.OK)
	wantGet(t, "a body of one more", sealed("\x01\x05", body(tooLong)), api.ErrLong)
}

// P4.2: more than 64 sections are told as soon as their number is read.
func TestGetTooMany(t *testing.T) {
	for n := range 65 {
		wantGet(t, "up to 64", meantPack(row(n, 0, "q")), api.OK)
	}
	for _, n := range []uint64{65, 66, 127, 128, 300, 1 << 31, 1 << 32, 1<<63 - 1, 1 << 63, math.MaxUint64 - 63, math.MaxUint64} {
		wantGet(t, "nothing follows", sealed(number(n)), api.ErrLong)
		wantGet(t, "no number follows", sealed(number(n), high), api.ErrLong)
		wantGet(t, "kinds are the same", sealed(number(n), "\x01\x00\x01\x00"), api.ErrLong)
	}
	wantGet(t, "65 that are there", meantPack(row(65, 0, "q")), api.ErrLong)
	wantGet(t, "64 that are not all there", sealed("\x40\x01\x00"), api.ErrShort)
}

// P4.2: kinds that do not rise are told as soon as they are read.
func TestGetKinds(t *testing.T) {
	for _, k := range [][]uint64{{0, 0}, {1, 1}, {1, 0}, {300, 299}, {math.MaxUint64, math.MaxUint64}, {math.MaxUint64, 0}, {1 << 63, 1<<63 - 1}} {
		first := "\x02" + number(k[0]) + body("ab")
		wantGet(t, "whole", sealed(first, number(k[1]), body("c")), api.ErrForm)
		wantGet(t, "no body follows", sealed(first, number(k[1])), api.ErrForm)
		wantGet(t, "a body too long follows", sealed(first, number(k[1]), number(8388609)), api.ErrForm)
		wantGet(t, "a body cut follows", sealed(first, number(k[1]), "\x05"), api.ErrForm)
	}
	for at := 1; at < 64; at++ {
		l := row(64, 10, "k")
		l[at].Kind = l[at-1].Kind
		wantGet(t, "one the same", meantPack(l), api.ErrForm)
		l[at].Kind--
		wantGet(t, "one falls", meantPack(l), api.ErrForm)
	}
	wantGet(t, "a body cut ahead of kinds that are the same", sealed("\x02\x01\x05a\x01\x00"), api.ErrShort)
	wantGet(t, "a body too long ahead of kinds that are the same", sealed("\x02\x01", number(8388609), "\x01\x00"), api.ErrLong)
}

// P4.2: nothing may stand between the last section and the sum.
func TestGetLeft(t *testing.T) {
	for _, l := range lists() {
		good := meantPack(l)
		inner := good[5 : len(good)-4]
		for _, more := range []string{"\x00", "\x01", "\x80", "\xFF", "\x00\x00\x00\x00", "\x01\x00", high, good, good[len(good)-4:]} {
			wantGet(t, "left", sealed(inner, more), api.ErrForm)
		}
	}
	wantGet(t, "a section more than told", sealed("\x01\x01\x00\x02\x00"), api.ErrForm)
	wantGet(t, "sections where none is told", sealed("\x00\x01\x00"), api.ErrForm)
}

// P4.2: bodies that are too long together are told last of all.
func TestGetHowLong(t *testing.T) {
	const room = 8388608
	wantGet(t, "halves", meantPack(bodies(room/2, room/2)), api.OK)
	wantGet(t, "halves, and one more", meantPack(bodies(room/2, room/2, 1)), api.ErrLong)
	wantGet(t, "each within", meantPack(bodies(room, room)), api.ErrLong)
	wantGet(t, "one, then nothing", meantPack(bodies(room, 0, 0)), api.OK)
	wantGet(t, "one, then one", meantPack(bodies(room, 0, 1)), api.ErrLong)

	long := number(0) + body(strings.Repeat("\x00", room)) + number(1) + body("a")
	wantGet(t, "too long", sealed("\x02", long), api.ErrLong)
	wantGet(t, "too long, and left", sealed("\x02", long, "\x00"), api.ErrForm)
	wantGet(t, "too long, and a kind cut", sealed("\x03", long, "\x80"), api.ErrShort)
	wantGet(t, "too long, and a kind with a 0", sealed("\x03", long, "\x82\x00"), api.ErrForm)
	wantGet(t, "too long, and kinds that are the same", sealed("\x03", long, "\x01"), api.ErrForm)
	wantGet(t, "too long, and a body cut", sealed("\x03", long, "\x02\x09"), api.ErrShort)
	wantGet(t, "too long, and a sum that does not fit", mark+"\x02"+long+"\x00\x00\x00\x00", api.ErrSum)
}

// P4.2: the sum is told ahead of whatever is wrong within.
func TestGetSumIsFirst(t *testing.T) {
	for _, inner := range []string{"", high, "\x41", "\x01", "\x02\x01\x00\x01\x00", "\x00\x00", "\x01\x05\x80\x00", "\x01\x05" + number(8388609)} {
		good := sealed(inner)
		for bit := range 32 {
			wantGet(t, "a bit of the sum", turned(good, 8*(len(good)-4)+bit, 1), api.ErrSum)
		}
	}
}

// eachText calls for every text of these letters and of this length.
func eachText(letters string, length int, do func(string)) {
	text := make([]byte, length)
	var fill func(at int)
	fill = func(at int) {
		if at == length {
			do(string(text))
			return
		}
		for i := range len(letters) {
			text[at] = letters[i]
			fill(at + 1)
		}
	}
	fill(0)
}

// checkWhole: what is got, put again, is the bytes that were got (P4.3), and what is told is P4.2's.
func checkWhole(t *testing.T, s string) {
	t.Helper()
	checkGet(t, s)
	l, e := pack.Get(s)
	if e != api.OK {
		return
	}
	if again, e := pack.Put(l); again != s || e != api.OK {
		t.Errorf("Put(Get(% X)) = % X, %d", short(s), short(again), e)
	}
}

// P4.2 and P4.3 on all short texts of edge bytes, with a sum that fits.
func TestGetOfShortTexts(t *testing.T) {
	for n := range 8 {
		eachText("\x00\x01\x02\x80\x81", n, func(s string) { checkWhole(t, sealed(s)) })
	}
	for n := range 6 {
		eachText("\x00\x01\x02\x03\x7F\x80\xFF\x40\x41", n, func(s string) { checkWhole(t, sealed(s)) })
	}
}

// P4.3: what is put is got again, and what is got is put again.
func TestPutIsGot(t *testing.T) {
	all := append(lists(), bodies(8388608), bodies(8388607, 1), row(64, 0, strings.Repeat("\xA5", 131072)))
	for _, l := range all {
		s, e := pack.Put(l)
		if e != api.OK {
			t.Errorf("%d sections: %d", len(l), e)
		}
		if m, e := pack.Get(s); !slices.Equal(m, l) || e != api.OK {
			t.Errorf("Get(Put(%d sections)) = %d sections, %d", len(l), len(m), e)
		}
		checkWhole(t, s)
	}
}

// turned is a text of which the bits of a word are turned, from a bit on.
func turned(s string, at int, word uint32) string {
	out := []byte(s)
	for i := range 32 {
		if word>>i&1 == 1 {
			out[(at+i)/8] ^= 1 << ((at + i) % 8)
		}
	}
	return string(out)
}

// windows are words whose lowest bit is turned: one bit, two, many, all.
func windows() []uint32 {
	out := []uint32{1, 0xFFFFFFFF, 0xEDB88321, 0xDB710641, 0x04C11DB7, 0x55555555, 0x80000001, 0xFFFF, 0xFF}
	for bit := 1; bit < 32; bit++ {
		out = append(out, 1|1<<bit, 1<<bit|(1<<bit-1))
	}
	n := uint32(1)
	for range 40 {
		n = n*1664525 + 1013904223
		out = append(out, n|1)
	}
	return out
}

// P4.3: bits turned within 32, at each place of a pack.
func TestTurnedBits(t *testing.T) {
	packs := []string{
		meantPack(nil),
		meantPack(kinds(0)),
		meantPack(kinds(1, 2, math.MaxUint64)),
		meantPack([]api.Section{{Kind: 1, Body: "a"}, {Kind: 300, Body: ""}}),
		meantPack(row(64, 0, "")),
		meantPack([]api.Section{{Kind: 3, Body: strings.Repeat("\x00", 300)}}),
		meantPack([]api.Section{{Kind: 3, Body: meantPack(nil)}, {Kind: 4, Body: "\xFF\xFF"}}),
	}
	for _, s := range packs {
		if _, e := pack.Get(s); e != api.OK {
			t.Errorf("Get(% X): %d", short(s), e)
		}
		for at := range 8 * len(s) {
			for _, word := range windows() {
				if word>>1>>min(31, 8*len(s)-at-1) == 0 {
					checkTurned(t, turned(s, at, word), at)
				}
			}
		}
	}
}

// checkTurned: it is refused, by its mark if that has changed, else by its sum.
func checkTurned(t *testing.T, s string, at int) {
	t.Helper()
	we := want(strings.HasPrefix(s, mark), api.ErrSum, api.ErrMagic)
	if l, e := pack.Get(s); e != we || len(l) > 0 {
		t.Errorf("bits turned from %d on: Get = %d sections, %d; want %d", at, len(l), e, we)
	}
}

// share tells whether two texts lie in the same memory.
func share(a, b string) bool {
	if a == "" || b == "" {
		return false
	}
	from, to := uintptr(unsafe.Pointer(unsafe.StringData(a))), uintptr(unsafe.Pointer(unsafe.StringData(b)))
	return from < to+uintptr(len(b)) && to < from+uintptr(len(a))
}

// R4: answers share nothing with arguments, or with one another.
func TestAnswersAreTheirOwn(t *testing.T) {
	l := []api.Section{{Kind: 1, Body: "first body"}, {Kind: 2, Body: "second body"}, {Kind: 5, Body: "third"}}
	before := slices.Clone(l)
	s, _ := pack.Put(l)
	got, _ := pack.Get(s)
	more, _ := pack.Get(s)
	if !slices.Equal(l, before) {
		t.Error("the list was changed:", l)
	}
	for i, one := range got {
		if share(s, l[i].Body) || share(one.Body, s) || share(one.Body, more[i].Body) {
			t.Errorf("section %d shares its memory", i)
		}
		if i > 0 && share(one.Body, got[i-1].Body) {
			t.Errorf("sections %d and %d share their memory", i-1, i)
		}
	}
	got[0].Body = "changed"
	if more[0].Body != "first body" {
		t.Error("two answers share a list")
	}
}

// R1: calls at one time tell what one tells alone.
func TestNothingIsKept(t *testing.T) {
	var all sync.WaitGroup
	for range 8 {
		all.Go(func() {
			for _, l := range lists() {
				checkPut(t, "at one time", l)
				checkGet(t, meantPack(l))
				checkGet(t, sealed("\x02\x01\x00\x01\x00"))
				checkGet(t, sealed("\x02\x01\x00\x03"))
			}
		})
	}
	all.Wait()
}

func FuzzPack(f *testing.F) {
	for _, l := range lists() {
		s := meantPack(l)
		f.Add(s[5:len(s)-4], uint64(5), uint64(9))
	}
	f.Add("\x01\x80\x00", uint64(1), uint64(1))
	f.Fuzz(func(t *testing.T, s string, a, b uint64) {
		checkWhole(t, s)
		checkWhole(t, seal(s))
		checkWhole(t, sealed(s))
		l := []api.Section{{Kind: a, Body: s}, {Kind: b, Body: s[len(s)/2:]}}
		checkPut(t, "two", l)
		checkWhole(t, meantPack(l))
	})
}
