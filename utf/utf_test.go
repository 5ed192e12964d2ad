package utf_test

import (
	"bytes"
	"math"
	"math/big"
	"strings"
	"testing"
	"unsafe"

	"fretsaw/api"
	"fretsaw/utf"
)

// row is one of the chapter's table, with its first and last characters.
type row struct {
	first, last, bytes int
}

var rows = []row{
	{0x0, 0x7F, 1},
	{0x80, 0x7FF, 2},
	{0x800, 0xFFFF, 3},
	{0x10000, 0x10FFFF, 4},
}

// isCharacter, written, begins and fixed are the chapter's definitions, word for word, so that the package is held against them.
func isCharacter(c int) bool {
	return c >= 0 && c <= 0x10FFFF && !(c >= 0xD800 && c <= 0xDFFF)
}

// writtenWith is what the table's row of so many bytes would write, whether or not it is the least one.
func writtenWith(c, n int) string {
	switch n {
	case 1:
		return string([]byte{byte(c)})
	case 2:
		return string([]byte{byte(0xC0 + c/0x40), byte(0x80 + c%0x40)})
	case 3:
		return string([]byte{byte(0xE0 + c/0x1000), byte(0x80 + c/0x40%0x40), byte(0x80 + c%0x40)})
	}
	return string([]byte{byte(0xF0 + c/0x40000), byte(0x80 + c/0x1000%0x40), byte(0x80 + c/0x40%0x40), byte(0x80 + c%0x40)})
}

func written(c int) string {
	if !isCharacter(c) {
		return ""
	}
	for _, r := range rows {
		if r.first <= c && c <= r.last {
			return writtenWith(c, r.bytes)
		}
	}
	return ""
}

// candidate is the only number that the table's row of so many bytes could have made these bytes of.
func candidate(s string) int {
	lead := []int{0, 0x00, 0xC0, 0xE0, 0xF0}[len(s)]
	c := int(s[0]) - lead
	for i := 1; i < len(s); i++ {
		c = c*0x40 + int(s[i]) - 0x80
	}
	return c
}

func begins(s string, at int) (int, int, bool) {
	if at < 0 || at >= len(s) {
		return 0, 0, false
	}
	for n := 1; n <= 4 && at+n <= len(s); n++ {
		part := s[at : at+n]
		if c := candidate(part); written(c) == part {
			return c, n, true
		}
	}
	return 0xFFFD, 1, false
}

func fixed(s string) (text string, count int, whole bool) {
	var out strings.Builder
	whole = true
	for at := 0; at < len(s); count++ {
		c, n, ok := begins(s, at)
		out.WriteString(written(c))
		whole = whole && ok
		at += n
	}
	return out.String(), count, whole
}

// edgeBytes are those at which the table's rows, and what may stand behind their first bytes, begin and end.
var edgeBytes = []byte{
	0x00, 0x41, 0x7F, 0x80, 0x81, 0x8F, 0x90, 0x9F, 0xA0, 0xBD, 0xBF, 0xC0, 0xC1, 0xC2, 0xDF,
	0xE0, 0xE1, 0xEC, 0xED, 0xEE, 0xEF, 0xF0, 0xF1, 0xF3, 0xF4, 0xF5, 0xF8, 0xFF,
}

// eachText goes through all the texts of at most so many of the bytes.
func eachText(letters []byte, length int, do func(string)) {
	var from func(s string)
	from = func(s string) {
		do(s)
		if len(s) == length {
			return
		}
		for _, b := range letters {
			from(s + string([]byte{b}))
		}
	}
	from("")
}

func checkNext(t *testing.T, s string, at int) {
	t.Helper()
	c, n, ok := utf.Next(s, at)
	wc, wn, wok := begins(s, at)
	if c != wc || n != wn || ok != wok {
		t.Errorf("Next(% X, %d) = %X, %d, %v; want %X, %d, %v", s, at, c, n, ok, wc, wn, wok)
	}
}

// checkText holds all calls on one text against the definitions.
func checkText(t *testing.T, s string) {
	t.Helper()
	for at := -1; at <= len(s)+1; at++ {
		checkNext(t, s, at)
	}
	text, count, whole := fixed(s)
	if got := utf.Fix(s); got != text {
		t.Errorf("Fix(% X) = % X; want % X", s, got, text)
	}
	if got := utf.Count(s); got != count {
		t.Errorf("Count(% X) = %d; want %d", s, got, count)
	}
	if got := utf.Valid(s); got != whole {
		t.Errorf("Valid(% X) = %v; want %v", s, got, whole)
	}
}

// P1.1 to P1.4 on every character, and on the numbers between them that are none.
func TestEachCharacter(t *testing.T) {
	for c := range 0x110000 {
		w := written(c)
		if got := utf.Put(c); got != w {
			t.Fatalf("Put(%X) = % X; want % X", c, got, w)
		}
		if w == "" {
			continue
		}
		s := w + "A"
		if got, n, ok := utf.Next(s, 0); got != c || n != len(w) || !ok {
			t.Fatalf("Next(% X, 0) = %X, %d, %v", s, got, n, ok)
		}
		if !utf.Valid(w) || utf.Count(w) != 1 || utf.Fix(w) != w {
			t.Fatalf("% X is one character: Valid %v, Count %d, Fix % X", w, utf.Valid(w), utf.Count(w), utf.Fix(w))
		}
	}
}

// P1.1 to P1.3 on all short texts of bytes at the edges: too many bytes, halves, numbers above 10FFFF, ends within a character.
func TestTextsOfEdgeBytes(t *testing.T) {
	eachText(edgeBytes, 3, func(s string) { checkText(t, s) })
	for _, lead := range []byte{0xEF, 0xF0, 0xF1, 0xF3, 0xF4, 0xF5} {
		eachText(edgeBytes, 3, func(s string) { checkText(t, string([]byte{lead})+s) })
	}
}

// P1.1 on each pair of bytes, as the end of a text and within one.
func TestEachPairOfBytes(t *testing.T) {
	for a := range 256 {
		for b := range 256 {
			s := string([]byte{byte(a), byte(b)})
			checkText(t, s)
			checkText(t, "\xE2"+s+"\x80")
		}
	}
}

// P1.1 at the rows' first and last characters.
func TestNextAtRowsEdges(t *testing.T) {
	tests := []struct {
		s    string
		c, n int
	}{
		{"\x00", 0x0, 1}, {"\x7F", 0x7F, 1},
		{"\xC2\x80", 0x80, 2}, {"\xDF\xBF", 0x7FF, 2},
		{"\xE0\xA0\x80", 0x800, 3}, {"\xEF\xBF\xBF", 0xFFFF, 3},
		{"\xED\x9F\xBF", 0xD7FF, 3}, {"\xEE\x80\x80", 0xE000, 3},
		{"\xF0\x90\x80\x80", 0x10000, 4}, {"\xF4\x8F\xBF\xBF", 0x10FFFF, 4},
	}
	for _, x := range tests {
		for _, ahead := range []string{"", "A", "\xC3\xA9", "\x80", "\xF0"} {
			for _, behind := range []string{"", "A", "\x80", "\xFF", x.s} {
				s := ahead + x.s + behind
				if c, n, ok := utf.Next(s, len(ahead)); c != x.c || n != x.n || !ok {
					t.Errorf("Next(% X, %d) = %X, %d, %v; want %X, %d, true", s, len(ahead), c, n, ok, x.c, x.n)
				}
			}
		}
	}
}

// P1.1: a written FFFD is a character, unlike a bad byte.
func TestNextOfTheStandIn(t *testing.T) {
	if c, n, ok := utf.Next("\xEF\xBF\xBD", 0); c != 0xFFFD || n != 3 || !ok {
		t.Error(c, n, ok)
	}
	for _, s := range []string{"\xEF", "\xEF\xBF", "\xEF\xBFA", "\xBF\xBD", "\xBD"} {
		if c, n, ok := utf.Next(s, 0); c != 0xFFFD || n != 1 || ok {
			t.Errorf("Next(% X, 0) = %X, %d, %v", s, c, n, ok)
		}
	}
	if !utf.Valid("\xEF\xBF\xBD") || utf.Valid("\xEF\xBF\xBD\xEF") || utf.Valid("\xEF\xBF") {
		t.Error("a written FFFD is well-formed, a part of it is not")
	}
}

// P1.1 and P1 of the whole: places out of the text.
func TestNextAtWrongPlaces(t *testing.T) {
	for _, s := range []string{"", "A", "\xC3\xA9A", "\xFF\xFF"} {
		for _, at := range []int{-1, -2, math.MinInt, len(s), len(s) + 1, math.MaxInt, math.MaxInt - 1, 1 << 32, -1 << 32} {
			if c, n, ok := utf.Next(s, at); c != 0 || n != 0 || ok {
				t.Errorf("Next(% X, %d) = %X, %d, %v; want zero values", s, at, c, n, ok)
			}
		}
	}
}

// notWellFormed are texts that are no written characters, with how they are fixed: "?" stands for FFFD.
var notWellFormed = []struct{ name, s, fixed string }{
	{"a byte that only follows", "\x80", "?"},
	{"two bytes for 0", "\xC0\x80", "??"},
	{"two bytes for 7F", "\xC1\xBF", "??"},
	{"three bytes for 7FF", "\xE0\x9F\xBF", "???"},
	{"four bytes for FFFF", "\xF0\x8F\xBF\xBF", "????"},
	{"D800", "\xED\xA0\x80", "???"},
	{"DFFF", "\xED\xBF\xBF", "???"},
	{"two halves", "\xED\xA0\xBD\xED\xB8\x80", "??????"},
	{"110000", "\xF4\x90\x80\x80", "????"},
	{"140000", "\xF5\x80\x80\x80", "????"},
	{"five bytes", "\xF8\x88\x80\x80\x80", "?????"},
	{"bytes that nothing has", "\xFE\xFF", "??"},
	{"an end within two", "A\xC3", "A?"},
	{"an end within three", "A\xE2\x82", "A??"},
	{"an end within four", "A\xF0\x9F\x98", "A???"},
	{"a character within one", "\xF0\x9F\xC3\xA9\x98", "??\xC3\xA9?"},
	{"one byte too many", "\xC3\xA9\xA9B", "\xC3\xA9?B"},
}

// P1.2, P1.3 and P1.6 on texts that are not well-formed.
func TestTextsThatAreNotWellFormed(t *testing.T) {
	for _, x := range notWellFormed {
		want := strings.ReplaceAll(x.fixed, "?", "\xEF\xBF\xBD")
		if got := utf.Fix(x.s); got != want {
			t.Errorf("%s: Fix(% X) = % X; want % X", x.name, x.s, got, want)
		}
		if utf.Valid(x.s) || !utf.Valid(utf.Fix(x.s)) {
			t.Errorf("%s: Valid(% X) = %v, of what is fixed %v", x.name, x.s, utf.Valid(x.s), utf.Valid(utf.Fix(x.s)))
		}
		if utf.Count(x.s) != utf.Count(want) {
			t.Errorf("%s: Count(% X) = %d; want %d", x.name, x.s, utf.Count(x.s), utf.Count(want))
		}
	}
}

// P1.2 and P1.3 on the empty text.
func TestEmptyText(t *testing.T) {
	if !utf.Valid("") || utf.Count("") != 0 || utf.Fix("") != "" {
		t.Error(utf.Valid(""), utf.Count(""), utf.Fix(""))
	}
}

// P1.2: Count is how often Next goes on.
func TestCountIsStepsOfNext(t *testing.T) {
	eachText(edgeBytes, 3, func(s string) {
		steps := 0
		for at := 0; at < len(s); steps++ {
			_, n, _ := utf.Next(s, at)
			at += n
		}
		if utf.Count(s) != steps {
			t.Errorf("Count(% X) = %d; Next goes on %d times", s, utf.Count(s), steps)
		}
	})
}

// P1.4 on numbers that are no characters, such as would be one if they were cut off to fewer bits.
func TestPutOfNoCharacter(t *testing.T) {
	wrong := []int{
		-1, -2, math.MinInt, math.MaxInt, 0x110000, 0xD800, 0xDBFF, 0xDC00, 0xDFFF,
		1 << 31, 1 << 32, 1<<32 + 0x41, 1<<40 + 0x41, -1<<32 + 0x41, 1<<62 + 0x41, math.MinInt + 0x41,
	}
	for _, c := range wrong {
		if got := utf.Put(c); got != "" {
			t.Errorf("Put(%X) = % X; want the empty text", c, got)
		}
	}
}

// P1.4: the rows' first and last characters, written out by hand.
func TestPutAtRowsEdges(t *testing.T) {
	tests := map[int]string{
		0x0: "\x00", 0x7F: "\x7F", 0x80: "\xC2\x80", 0x7FF: "\xDF\xBF", 0x800: "\xE0\xA0\x80", 0xFFFF: "\xEF\xBF\xBF",
		0xD7FF: "\xED\x9F\xBF", 0xE000: "\xEE\x80\x80", 0xFFFD: "\xEF\xBF\xBD", 0x10000: "\xF0\x90\x80\x80", 0x10FFFF: "\xF4\x8F\xBF\xBF",
	}
	for c, want := range tests {
		if got := utf.Put(c); got != want {
			t.Errorf("Put(%X) = % X; want % X", c, got, want)
		}
	}
}

// edgeNumbers are those at which a sum or a product comes to 2^62, or would go round.
func edgeNumbers() []int {
	var out []int
	for _, n := range []int{0, 1, 2, 3, 5, 1 << 30, 1 << 31, 1 << 32, 1 << 61, 1 << 62, math.MaxInt, math.MaxInt / 3, 1 << 62 / 3, 1 << 62 / 5, 3037000499, 2147483647 * 2} {
		for d := -2; d <= 2; d++ {
			if d <= 0 || n <= math.MaxInt-d {
				out = append(out, n+d)
			}
		}
	}
	return append(out, math.MinInt, math.MinInt+1, -1<<62, -1<<32, -1<<31)
}

// wanted is what P1.5 tells of an exact sum or product.
func wanted(a, b int, exact *big.Int) (int, api.Errno) {
	if a < 0 || b < 0 {
		return 0, api.ErrArg
	}
	if exact.Cmp(new(big.Int).Lsh(big.NewInt(1), 62)) > 0 {
		return 0, api.ErrOver
	}
	return int(exact.Int64()), api.OK
}

// P1.5 on all pairs of numbers at the edges.
func TestAddAndMulAtEdges(t *testing.T) {
	for _, a := range edgeNumbers() {
		for _, b := range edgeNumbers() {
			x, y := big.NewInt(int64(a)), big.NewInt(int64(b))
			got, e := utf.Add(a, b)
			if want, we := wanted(a, b, new(big.Int).Add(x, y)); got != want || e != we {
				t.Errorf("Add(%d, %d) = %d, %d; want %d, %d", a, b, got, e, want, we)
			}
			got, e = utf.Mul(a, b)
			if want, we := wanted(a, b, new(big.Int).Mul(x, y)); got != want || e != we {
				t.Errorf("Mul(%d, %d) = %d, %d; want %d, %d", a, b, got, e, want, we)
			}
		}
	}
}

// P1.5 by numbers written out, and R2: ErrArg comes ahead of ErrOver, with zero beside both.
func TestAddAndMul(t *testing.T) {
	const top = 1 << 62
	tests := []struct {
		name string
		call func(a, b int) (int, api.Errno)
		a, b int
		want int
		e    api.Errno
	}{
		{"Add", utf.Add, 0, 0, 0, api.OK},
		{"Add", utf.Add, 2, 3, 5, api.OK},
		{"Add", utf.Add, top, 0, top, api.OK},
		{"Add", utf.Add, 0, top, top, api.OK},
		{"Add", utf.Add, top - 1, 1, top, api.OK},
		{"Add", utf.Add, top / 2, top / 2, top, api.OK},
		{"Add", utf.Add, top / 2, top/2 + 1, 0, api.ErrOver},
		{"Add", utf.Add, 1, top, 0, api.ErrOver},
		{"Add", utf.Add, math.MaxInt, math.MaxInt, 0, api.ErrOver},
		{"Add", utf.Add, math.MaxInt, 0, 0, api.ErrOver},
		{"Add", utf.Add, math.MaxInt, -1, 0, api.ErrArg},
		{"Add", utf.Add, 5, -1, 0, api.ErrArg},
		{"Mul", utf.Mul, 0, 0, 0, api.OK},
		{"Mul", utf.Mul, 6, 7, 42, api.OK},
		{"Mul", utf.Mul, 0, math.MaxInt, 0, api.OK},
		{"Mul", utf.Mul, math.MaxInt, 0, 0, api.OK},
		{"Mul", utf.Mul, 1, top, top, api.OK},
		{"Mul", utf.Mul, top, 1, top, api.OK},
		{"Mul", utf.Mul, 2, top / 2, top, api.OK},
		{"Mul", utf.Mul, top + 1, 1, 0, api.ErrOver},
		{"Mul", utf.Mul, 1, top + 1, 0, api.ErrOver},
		{"Mul", utf.Mul, 1 << 32, 1 << 32, 0, api.ErrOver},
		{"Mul", utf.Mul, math.MaxInt, math.MaxInt, 0, api.ErrOver},
		{"Mul", utf.Mul, math.MaxInt, -1, 0, api.ErrArg},
		{"Mul", utf.Mul, -1, 0, 0, api.ErrArg},
		{"Mul", utf.Mul, 0, math.MinInt, 0, api.ErrArg},
	}
	for _, x := range tests {
		if got, e := x.call(x.a, x.b); got != x.want || e != x.e {
			t.Errorf("%s(%d, %d) = %d, %d; want %d, %d", x.name, x.a, x.b, got, e, x.want, x.e)
		}
	}
}

// P1.6: Fix makes any text well-formed, and leaves a well-formed one as it is.
func TestFixMakesWellFormed(t *testing.T) {
	eachText(edgeBytes, 3, func(s string) {
		f := utf.Fix(s)
		if !utf.Valid(f) || utf.Fix(f) != f || utf.Count(f) != utf.Count(s) {
			t.Errorf("Fix(% X) = % X", s, f)
		}
		if utf.Valid(s) && f != s {
			t.Errorf("% X is well-formed, and fixed to % X", s, f)
		}
	})
}

// P1.6: a well-formed text ahead changes nothing of how the next one is fixed.
func TestFixBehindWellFormed(t *testing.T) {
	ahead := []string{"", "A", "\x00", "\xC2\x80", "\xE2\x82\xAC", "\xEF\xBF\xBD", "\xF4\x8F\xBF\xBF", "\xC3\xA9A\xF0\x90\x80\x80"}
	for _, a := range ahead {
		eachText(edgeBytes, 3, func(s string) {
			if got, want := utf.Fix(a+s), a+utf.Fix(s); got != want {
				t.Errorf("Fix(% X) = % X; want % X", a+s, got, want)
			}
		})
	}
}

// The chapter's examples.
func TestExamples(t *testing.T) {
	checkNextIs := func(at, c, n int, ok bool) {
		t.Helper()
		if gc, gn, gok := utf.Next("\xC3\xA9\x41", at); gc != c || gn != n || gok != ok {
			t.Errorf("Next at %d: %X, %d, %v", at, gc, gn, gok)
		}
	}
	checkNextIs(0, 0xE9, 2, true)
	checkNextIs(1, 0xFFFD, 1, false)
	checkNextIs(3, 0, 0, false)
	if f := utf.Fix("\x41\xE2\x82\x42"); f != "A\xEF\xBF\xBD\xEF\xBF\xBDB" || utf.Count(f) != 4 {
		t.Errorf("% X, %d", f, utf.Count(f))
	}
	if utf.Put(0x20AC) != "\xE2\x82\xAC" || utf.Put(0xD800) != "" {
		t.Errorf("% X, % X", utf.Put(0x20AC), utf.Put(0xD800))
	}
	for _, s := range []string{"\xED\xA0\x80", "\xC0\x80", "\xF4\x90\x80\x80"} {
		if utf.Valid(s) {
			t.Errorf("Valid(% X)", s)
		}
	}
	checkSum := func(n int, e api.Errno) func(int, api.Errno) {
		return func(gn int, ge api.Errno) {
			t.Helper()
			if gn != n || ge != e {
				t.Errorf("%d, %d; want %d, %d", gn, ge, n, e)
			}
		}
	}
	checkSum(0, api.ErrOver)(utf.Add(1<<62, 1))
	checkSum(1<<62, api.OK)(utf.Mul(1<<31, 1<<31))
	checkSum(0, api.ErrOver)(utf.Mul(1<<31, 1<<31+1))
	checkSum(0, api.ErrArg)(utf.Add(-1, 5))
}

// R1: the same arguments, the same answers, whatever was asked between, and by several at one time.
func TestNothingIsKept(t *testing.T) {
	s := "A\xE2\x82\xC3\xA9\xFF"
	text, count, whole := fixed(s)
	done := make(chan bool)
	for range 8 {
		go func() {
			right := true
			for i := range 1000 {
				utf.Fix(strings.Repeat("\xFF", i%7))
				c, n, ok := utf.Next(s, 3)
				right = right && c == 0xE9 && n == 2 && ok
				right = right && utf.Fix(s) == text && utf.Count(s) == count && utf.Valid(s) == whole && utf.Put(0xE9) == "\xC3\xA9"
			}
			done <- right
		}()
	}
	for range 8 {
		if !<-done {
			t.Error("an answer changed from call to call")
		}
	}
}

// R4: what is fixed shares no memory with the text, even if nothing had to be changed, and the text stays as it was.
func TestFixIsNewMemory(t *testing.T) {
	for _, x := range []string{"well-formed", "A\xFFB", "\xEF\xBF\xBD"} {
		given := []byte(x)
		s := unsafe.String(&given[0], len(given))
		f := utf.Fix(s)
		if unsafe.StringData(f) == unsafe.StringData(s) {
			t.Errorf("Fix(% X) shares the text's memory", x)
		}
		if !bytes.Equal(given, []byte(x)) {
			t.Errorf("Fix changed % X to % X", x, given)
		}
	}
}

// P1 of the whole: long texts end, too, and in a number of steps that a long text allows.
func TestLongTexts(t *testing.T) {
	const n = 1 << 20
	for _, part := range []string{"A", "\xC3\xA9", "\xEF\xBF\xBD", "\xF4\x8F\xBF\xBF"} {
		s := strings.Repeat(part, n)
		if !utf.Valid(s) || utf.Count(s) != n || utf.Fix(s) != s {
			t.Errorf("% X, again and again", part)
		}
		if _, size, ok := utf.Next(s, len(s)-len(part)); size != len(part) || !ok {
			t.Errorf("% X at the end of a long text: %d, %v", part, size, ok)
		}
	}
	s := strings.Repeat("\xE2\x82", n)
	if utf.Valid(s) || utf.Count(s) != 2*n || utf.Fix(s) != strings.Repeat("\xEF\xBF\xBD", 2*n) {
		t.Error("bad bytes, again and again")
	}
}
