package wire_test

import (
	"math"
	"math/big"
	"slices"
	"strings"
	"sync"
	"testing"
	"unsafe"

	"fretsaw/api"
	"fretsaw/wire"
)

// written is the chapter's word: digits of base 128, by division, the lowest first.
func written(n *big.Int) string {
	var out []byte
	rest := new(big.Int).Set(n)
	for {
		digit := new(big.Int)
		rest.DivMod(rest, big.NewInt(128), digit)
		b := byte(digit.Int64())
		if rest.Sign() == 0 {
			return string(append(out, b))
		}
		out = append(out, b+128)
	}
}

func number(n uint64) *big.Int { return new(big.Int).SetUint64(n) }

// meant is what P2.1 asks of Get, word for word: what stands there is held against the number that its digits make, as it is written.
func meant(s string, at int) (uint64, int, api.Errno) {
	if at < 0 || at > len(s) {
		return 0, 0, api.ErrArg
	}
	high := 0
	for high < 10 && at+high < len(s) && s[at+high] >= 128 {
		high++
	}
	if high == 10 {
		return 0, 0, api.ErrForm
	}
	if at+high == len(s) {
		return 0, 0, api.ErrShort
	}
	part := s[at : at+high+1]
	n := new(big.Int)
	for i := len(part) - 1; i >= 0; i-- {
		n.Mul(n, big.NewInt(128)).Add(n, big.NewInt(int64(part[i]%128)))
	}
	if written(n) != part || !n.IsUint64() {
		return 0, 0, api.ErrForm
	}
	return n.Uint64(), at + len(part), api.OK
}

func checkGet(t *testing.T, s string, at int) {
	t.Helper()
	n, to, e := wire.Get(s, at)
	wn, wto, we := meant(s, at)
	if n != wn || to != wto || e != we {
		t.Errorf("Get(% X, %d) = %d, %d, %d; want %d, %d, %d", s, at, n, to, e, wn, wto, we)
	}
}

// edgeNumbers are those at which a digit more is needed, and those beside them.
func edgeNumbers() []uint64 {
	out := []uint64{0, 1, 2, 5, 300, 12345678901234567890, math.MaxUint64 - 1, math.MaxUint64, math.MaxInt64, 1 << 63, math.MaxUint32, 1 << 32}
	for bits := 7; bits < 64; bits += 7 {
		p := uint64(1) << bits
		out = append(out, p-2, p-1, p, p+1, p/2, p+p/2, p|1<<(bits-7))
	}
	for bits := range 64 {
		out = append(out, uint64(1)<<bits, math.MaxUint64>>bits, math.MaxUint64<<bits)
	}
	return out
}

// around are bytes to stand ahead of and behind what is written: such as would go on a number, end one, or begin another.
var around = []string{"", "\x00", "\x01", "\x7F", "\x80", "\xFF", "\x80\x00", "\xFF\xFF\xFF\xFF\xFF\xFF\xFF\xFF\xFF\xFF\xFF\xFF", "\x02ab"}

// high is so many bytes of 128 or more.
func high(n int) string { return strings.Repeat("\x80", n) }

func full(n int) string { return strings.Repeat("\xFF", n) }

// wrongPlaces are those out of a text.
func wrongPlaces(s string) []int {
	return []int{-1, -2, math.MinInt, math.MinInt + 1, -1 << 32, len(s) + 1, len(s) + 2, 1 << 32, math.MaxInt, math.MaxInt - 1, math.MaxInt - 4, math.MaxInt - 9}
}

// The chapter's examples.
func TestExamples(t *testing.T) {
	if wire.Put(0) != "\x00" || wire.Put(300) != "\xAC\x02" || wire.PutFour(1) != "\x01\x00\x00\x00" {
		t.Errorf("% X; % X; % X", wire.Put(0), wire.Put(300), wire.PutFour(1))
	}
	gets := []struct {
		s  string
		at int
		n  uint64
		to int
		e  api.Errno
	}{
		{"\xAC\x02\x07", 0, 300, 2, api.OK},
		{"\x80\x00", 0, 0, 0, api.ErrForm},
		{"\x80", 0, 0, 0, api.ErrShort},
		{"\xAC\x02\x07", 9, 0, 0, api.ErrArg},
	}
	for _, x := range gets {
		if n, to, e := wire.Get(x.s, x.at); n != x.n || to != x.to || e != x.e {
			t.Errorf("Get(% X, %d) = %d, %d, %d; want %d, %d, %d", x.s, x.at, n, to, e, x.n, x.to, x.e)
		}
	}
	if s, to, e := wire.GetText("\x03ab", 0, 9); s != "" || to != 0 || e != api.ErrShort {
		t.Error(s, to, e)
	}
	if s, to, e := wire.GetText("\x03abc", 0, 2); s != "" || to != 0 || e != api.ErrLong {
		t.Error(s, to, e)
	}
	if l, to, e := wire.GetAll("\x02\x05\xAC\x02", 0, 2); !slices.Equal(l, []uint64{5, 300}) || to != 4 || e != api.OK {
		t.Error(l, to, e)
	}
}

// P2.1 by bytes written out by hand, of one to ten digits.
func TestPutAndGetOfEachLength(t *testing.T) {
	tests := []struct {
		n uint64
		s string
	}{
		{0, "\x00"},
		{1, "\x01"},
		{127, "\x7F"},
		{128, "\x80\x01"},
		{1<<14 - 1, "\xFF\x7F"},
		{1 << 14, "\x80\x80\x01"},
		{1<<21 - 1, "\xFF\xFF\x7F"},
		{1 << 21, "\x80\x80\x80\x01"},
		{1<<28 - 1, "\xFF\xFF\xFF\x7F"},
		{1 << 28, "\x80\x80\x80\x80\x01"},
		{1 << 35, high(5) + "\x01"},
		{1 << 42, high(6) + "\x01"},
		{1 << 49, high(7) + "\x01"},
		{1 << 56, high(8) + "\x01"},
		{1<<63 - 1, full(8) + "\x7F"},
		{1 << 63, high(9) + "\x01"},
		{math.MaxUint64 - 1, "\xFE" + full(8) + "\x01"},
		{math.MaxUint64, full(9) + "\x01"},
	}
	for _, x := range tests {
		if s := wire.Put(x.n); s != x.s {
			t.Errorf("Put(%d) = % X; want % X", x.n, s, x.s)
		}
		for _, behind := range around {
			if n, to, e := wire.Get(x.s+behind, 0); n != x.n || to != len(x.s) || e != api.OK {
				t.Errorf("Get(% X, 0) = %d, %d, %d; want %d, %d, OK", x.s+behind, n, to, e, x.n, len(x.s))
			}
		}
	}
}

// P2.1: Put is as the chapter says that a number is written.
func TestPutAsWritten(t *testing.T) {
	for _, n := range edgeNumbers() {
		if s, want := wire.Put(n), written(number(n)); s != want {
			t.Errorf("Put(%d) = % X; want % X", n, s, want)
		}
	}
	for n := range uint64(1 << 16) {
		if s, want := wire.Put(n), written(number(n)); s != want {
			t.Fatalf("Put(%d) = % X; want % X", n, s, want)
		}
	}
}

// P2.1 and P2.5 on bytes that are no number, with others behind them and without.
func TestGetOfNoNumber(t *testing.T) {
	tests := []struct {
		name, s string
		e       api.Errno
	}{
		{"the empty text", "", api.ErrShort},
		{"one digit that goes on", "\xFF", api.ErrShort},
		{"eight that go on", high(8), api.ErrShort},
		{"nine that go on", high(9), api.ErrShort},
		{"nine great ones that go on", full(9), api.ErrShort},
		{"ten that go on", high(10), api.ErrForm},
		{"ten great ones that go on", full(10), api.ErrForm},
		{"ten that go on, and an end", high(10) + "\x01", api.ErrForm},
		{"ten that go on, and a 0", high(10) + "\x00", api.ErrForm},
		{"eleven that go on", high(11), api.ErrForm},
		{"twenty that go on", full(20), api.ErrForm},
		{"a 0 behind one digit", "\x80\x00", api.ErrForm},
		{"a 0 behind a great digit", "\xFF\x00", api.ErrForm},
		{"a 0 behind eight digits", full(8) + "\x00", api.ErrForm},
		{"a 0 behind nine digits", full(9) + "\x00", api.ErrForm},
		{"2^64", high(9) + "\x02", api.ErrForm},
		{"2^64 + 1", "\x81" + high(8) + "\x02", api.ErrForm},
		{"above 2^64", full(9) + "\x02", api.ErrForm},
		{"an even tenth digit", high(9) + "\x7E", api.ErrForm},
		{"the greatest tenth digit", full(9) + "\x7F", api.ErrForm},
		{"a tenth digit that is 1 in its low bits", high(9) + "\x41", api.ErrForm},
	}
	for _, x := range tests {
		for _, ahead := range around {
			if n, to, e := wire.Get(ahead+x.s, len(ahead)); n != 0 || to != 0 || e != x.e {
				t.Errorf("%s: Get(% X, %d) = %d, %d, %d; want 0, 0, %d", x.name, ahead+x.s, len(ahead), n, to, e, x.e)
			}
			if x.e == api.ErrShort {
				continue
			}
			s := ahead + x.s + "\x01\x80"
			if n, to, e := wire.Get(s, len(ahead)); n != 0 || to != 0 || e != x.e {
				t.Errorf("%s: Get(% X, %d) = %d, %d, %d; want 0, 0, %d", x.name, s, len(ahead), n, to, e, x.e)
			}
		}
	}
}

// P2.1: nine and ten digits that go on are told apart by what stands behind them.
func TestGetBehindNineDigits(t *testing.T) {
	for b := range 256 {
		tail := string([]byte{byte(b)})
		for _, lead := range []string{high(8), full(8), high(9), full(9), high(10), full(10)} {
			for _, behind := range []string{"", "\x00", "\x01", "\x80", "\xFF"} {
				checkGet(t, lead+tail+behind, 0)
			}
		}
	}
}

// P2.1 on all texts of two bytes, and on all short texts of bytes at the edges, at every place in them and beside them.
func TestGetOfShortTexts(t *testing.T) {
	for a := range 256 {
		for b := range 256 {
			s := string([]byte{byte(a), byte(b)})
			for at := -1; at <= 3; at++ {
				checkGet(t, s, at)
			}
		}
	}
	eachText([]byte{0x00, 0x01, 0x02, 0x7F, 0x80, 0x81, 0xFF}, 5, func(s string) {
		for at := -1; at <= len(s)+1; at++ {
			checkGet(t, s, at)
		}
	})
	eachText([]byte{0x00, 0x01, 0x02, 0x7F, 0x80, 0xFF}, 4, func(s string) {
		checkGet(t, high(7)+s, 0)
		checkGet(t, full(7)+s, 0)
		checkGet(t, "\x05"+full(8)+s, 1)
	})
}

// eachText goes through all the texts of at most so many of the bytes.
func eachText(letters []byte, length int, do func(string)) {
	var from func(s string)
	from = func(s string) {
		do(s)
		if len(s) == length {
			return
		}
		for _, b := range letters {
			from(s + string([]byte{b}))
		}
	}
	from("")
}

// P2.1 to P2.5: places out of the text are ErrArg, whatever else is wrong; the text's end is a place, where nothing is left.
func TestPlaces(t *testing.T) {
	for _, s := range []string{"", "\x00", "\x01a", "\x80", "\x80\x00", "\x04abcd", "\x02\x01\x02", full(12)} {
		for _, at := range wrongPlaces(s) {
			checkPlace(t, s, at, api.ErrArg)
		}
		checkPlace(t, s, len(s), api.ErrShort)
	}
}

func checkPlace(t *testing.T, s string, at int, want api.Errno) {
	t.Helper()
	if n, to, e := wire.Get(s, at); n != 0 || to != 0 || e != want {
		t.Errorf("Get(% X, %d) = %d, %d, %d; want %d", s, at, n, to, e, want)
	}
	if n, to, e := wire.GetFour(s, at); n != 0 || to != 0 || e != want {
		t.Errorf("GetFour(% X, %d) = %d, %d, %d; want %d", s, at, n, to, e, want)
	}
	for _, most := range []int{math.MinInt, -1, 0, 1, 9, math.MaxInt} {
		if x, to, e := wire.GetText(s, at, most); x != "" || to != 0 || e != want {
			t.Errorf("GetText(% X, %d, %d) = % X, %d, %d; want %d", s, at, most, x, to, e, want)
		}
		if l, to, e := wire.GetAll(s, at, most); len(l) != 0 || to != 0 || e != want {
			t.Errorf("GetAll(% X, %d, %d) = %v, %d, %d; want %d", s, at, most, l, to, e, want)
		}
	}
}

// P2.2: a text stands behind its length, which may need several bytes.
func TestPutText(t *testing.T) {
	tests := []struct{ text, s string }{
		{"", "\x00"},
		{"a", "\x01a"},
		{"\x00", "\x01\x00"},
		{"\xFF\x80\x00", "\x03\xFF\x80\x00"},
		{strings.Repeat("x", 127), "\x7F" + strings.Repeat("x", 127)},
		{strings.Repeat("x", 128), "\x80\x01" + strings.Repeat("x", 128)},
		{strings.Repeat("\x80", 300), "\xAC\x02" + strings.Repeat("\x80", 300)},
		{strings.Repeat("y", 1<<14), "\x80\x80\x01" + strings.Repeat("y", 1<<14)},
	}
	for _, x := range tests {
		if s := wire.PutText(x.text); s != x.s {
			t.Errorf("PutText of %d bytes = % X", len(x.text), s)
		}
		for _, ahead := range around {
			for _, behind := range around {
				s := ahead + x.s + behind
				text, to, e := wire.GetText(s, len(ahead), len(x.text))
				if text != x.text || to != len(ahead)+len(x.s) || e != api.OK {
					t.Errorf("GetText of %d bytes = %d bytes, %d, %d", len(x.text), len(text), to, e)
				}
			}
		}
	}
}

// P2.2 and P2.5: most at the number, above it and below it, and below 0; the order of the errors.
func TestGetText(t *testing.T) {
	tests := []struct {
		name     string
		s        string
		at, most int
		text     string
		to       int
		e        api.Errno
	}{
		{"most at the number", "\x03abc", 0, 3, "abc", 4, api.OK},
		{"most above it", "\x03abc", 0, 4, "abc", 4, api.OK},
		{"the greatest most", "\x03abc", 0, math.MaxInt, "abc", 4, api.OK},
		{"most one below it", "\x03abc", 0, 2, "", 0, api.ErrLong},
		{"most 0", "\x01a", 0, 0, "", 0, api.ErrLong},
		{"most below 0", "\x01a", 0, -1, "", 0, api.ErrLong},
		{"the least most", "\x01a", 0, math.MinInt, "", 0, api.ErrLong},
		{"most 0, no byte", "\x00a", 0, 0, "", 1, api.OK},
		{"most below 0, no byte", "\x00a", 0, -1, "", 1, api.OK},
		{"the least most, no byte", "\x00", 0, math.MinInt, "", 1, api.OK},
		{"too long, and too few bytes", "\x03a", 0, 2, "", 0, api.ErrLong},
		{"one byte too few", "\x03ab", 0, 3, "", 0, api.ErrShort},
		{"no byte", "\x03", 0, 3, "", 0, api.ErrShort},
		{"a byte too few, from within", "zz\x02a", 2, 9, "", 0, api.ErrShort},
		{"from within", "zz\x02abc", 2, 9, "ab", 5, api.OK},
		{"a length in two ways", "\x83\x00abc", 0, 9, "", 0, api.ErrForm},
		{"a length that goes on", "\x83", 0, 9, "", 0, api.ErrShort},
		{"a length that is no number, most below 0", full(10) + "a", 0, -1, "", 0, api.ErrForm},
		{"the greatest length that is an int", full(8) + "\x7Fabc", 0, math.MaxInt, "", 0, api.ErrShort},
		{"one below that", "\xFE" + full(7) + "\x7Fabc", 0, math.MaxInt - 1, "", 0, api.ErrShort},
		{"the greatest int, most one below", full(8) + "\x7Fabc", 0, math.MaxInt - 1, "", 0, api.ErrLong},
		{"a length that is no int", high(9) + "\x01abc", 0, math.MaxInt, "", 0, api.ErrLong},
		{"2^64 - 1", full(9) + "\x01abc", 0, math.MaxInt, "", 0, api.ErrLong},
		{"2^64 - 1, most -1", full(9) + "\x01abc", 0, -1, "", 0, api.ErrLong},
		{"2^63, the least most", high(9) + "\x01abc", 0, math.MinInt, "", 0, api.ErrLong},
	}
	for _, x := range tests {
		if text, to, e := wire.GetText(x.s, x.at, x.most); text != x.text || to != x.to || e != x.e {
			t.Errorf("%s: GetText(% X, %d, %d) = % X, %d, %d; want % X, %d, %d", x.name, x.s, x.at, x.most, text, to, e, x.text, x.to, x.e)
		}
	}
}

// P2.3: the lowest byte first, whatever stands around the four.
func TestFour(t *testing.T) {
	tests := []struct {
		n uint32
		s string
	}{
		{0, "\x00\x00\x00\x00"},
		{1, "\x01\x00\x00\x00"},
		{0x80, "\x80\x00\x00\x00"},
		{0x100, "\x00\x01\x00\x00"},
		{0x10000, "\x00\x00\x01\x00"},
		{0x1000000, "\x00\x00\x00\x01"},
		{0x04030201, "\x01\x02\x03\x04"},
		{0xFCFDFEFF, "\xFF\xFE\xFD\xFC"},
		{1 << 31, "\x00\x00\x00\x80"},
		{math.MaxInt32, "\xFF\xFF\xFF\x7F"},
		{math.MaxUint32, "\xFF\xFF\xFF\xFF"},
	}
	for _, x := range tests {
		if s := wire.PutFour(x.n); s != x.s {
			t.Errorf("PutFour(%X) = % X; want % X", x.n, s, x.s)
		}
		for _, ahead := range around {
			for _, behind := range around {
				s := ahead + x.s + behind
				if n, to, e := wire.GetFour(s, len(ahead)); n != x.n || to != len(ahead)+4 || e != api.OK {
					t.Errorf("GetFour(% X, %d) = %X, %d, %d; want %X, %d, OK", s, len(ahead), n, to, e, x.n, len(ahead)+4)
				}
			}
		}
	}
}

// P2.3 and P2.5: fewer than four bytes.
func TestFourTooShort(t *testing.T) {
	for _, s := range []string{"", "\x01", "\x01\x02", "\xFF\xFF\xFF", "\x01\x02\x03\x04", "\x01\x02\x03\x04\x05"} {
		for at := max(0, len(s)-3); at <= len(s); at++ {
			if n, to, e := wire.GetFour(s, at); n != 0 || to != 0 || e != api.ErrShort {
				t.Errorf("GetFour(% X, %d) = %X, %d, %d; want ErrShort", s, at, n, to, e)
			}
		}
	}
	if n, to, e := wire.GetFour("\x09\x01\x02\x03\x04", 1); n != 0x04030201 || to != 5 || e != api.OK {
		t.Error(n, to, e)
	}
}

// P2.4: how many, then each.
func TestPutAll(t *testing.T) {
	tests := []struct {
		l []uint64
		s string
	}{
		{nil, "\x00"},
		{[]uint64{}, "\x00"},
		{[]uint64{0}, "\x01\x00"},
		{[]uint64{5, 300}, "\x02\x05\xAC\x02"},
		{[]uint64{0, 0, 0}, "\x03\x00\x00\x00"},
		{[]uint64{math.MaxUint64, 0, 127, 128}, "\x04" + full(9) + "\x01\x00\x7F\x80\x01"},
		{make([]uint64, 127), "\x7F" + strings.Repeat("\x00", 127)},
		{make([]uint64, 128), "\x80\x01" + strings.Repeat("\x00", 128)},
		{slices.Repeat([]uint64{1 << 14}, 300), "\xAC\x02" + strings.Repeat("\x80\x80\x01", 300)},
	}
	for _, x := range tests {
		if s := wire.PutAll(x.l); s != x.s {
			t.Errorf("PutAll(%v) = % X; want % X", x.l, s, x.s)
		}
		for _, ahead := range around {
			for _, behind := range around {
				s := ahead + x.s + behind
				l, to, e := wire.GetAll(s, len(ahead), len(x.l))
				if !slices.Equal(l, x.l) || to != len(ahead)+len(x.s) || e != api.OK {
					t.Errorf("GetAll(% X, %d, %d) = %v, %d, %d", s, len(ahead), len(x.l), l, to, e)
				}
			}
		}
	}
}

// P2.4 and P2.5: most at the number, above it and below it, and below 0; the order of the errors.
func TestGetAll(t *testing.T) {
	tests := []struct {
		name     string
		s        string
		at, most int
		l        []uint64
		to       int
		e        api.Errno
	}{
		{"most at the number", "\x02\x05\x06", 0, 2, []uint64{5, 6}, 3, api.OK},
		{"most above it", "\x02\x05\x06\x07", 0, 3, []uint64{5, 6}, 3, api.OK},
		{"the greatest most", "\x02\x05\x06\x07", 0, math.MaxInt, []uint64{5, 6}, 3, api.OK},
		{"most one below it", "\x02\x05\x06", 0, 1, nil, 0, api.ErrLong},
		{"most 0", "\x01\x05", 0, 0, nil, 0, api.ErrLong},
		{"most below 0", "\x01\x05", 0, -1, nil, 0, api.ErrLong},
		{"the least most", "\x01\x05", 0, math.MinInt, nil, 0, api.ErrLong},
		{"most 0, no number", "\x00\x05", 0, 0, nil, 1, api.OK},
		{"most below 0, no number", "\x00\x05", 0, -1, nil, 1, api.OK},
		{"the least most, no number", "\x00", 0, math.MinInt, nil, 1, api.OK},
		{"too many, and none there", "\x02", 0, 1, nil, 0, api.ErrLong},
		{"too many, and a wrong one", "\x02\x80\x00", 0, 1, nil, 0, api.ErrLong},
		{"one too few", "\x02\x05", 0, 2, nil, 0, api.ErrShort},
		{"none there", "\x02", 0, 2, nil, 0, api.ErrShort},
		{"the last one goes on", "\x02\x05\x80", 0, 2, nil, 0, api.ErrShort},
		{"the first one wrong", "\x02\x80\x00\x05", 0, 2, nil, 0, api.ErrForm},
		{"the last one wrong", "\x02\x05\x80\x00", 0, 2, nil, 0, api.ErrForm},
		{"one above 2^64 - 1", "\x02" + full(9) + "\x02\x05", 0, 2, nil, 0, api.ErrForm},
		{"a wrong one ahead of one too few", "\x03\x80\x00", 0, 9, nil, 0, api.ErrForm},
		{"a wrong one behind the last", "\x01\x05\x80\x00", 0, 9, []uint64{5}, 2, api.OK},
		{"the greatest number", "\x01" + full(9) + "\x01", 0, 1, []uint64{math.MaxUint64}, 11, api.OK},
		{"from within", "\x80\x80\x02\x05\xAC\x02\x01", 2, 9, []uint64{5, 300}, 6, api.OK},
		{"how many in two ways", "\x82\x00\x05\x06", 0, 9, nil, 0, api.ErrForm},
		{"how many goes on", "\x82", 0, 9, nil, 0, api.ErrShort},
		{"how many is no number, most below 0", full(10) + "\x05", 0, -1, nil, 0, api.ErrForm},
		{"the greatest int", full(8) + "\x7F\x05\x06", 0, math.MaxInt, nil, 0, api.ErrShort},
		{"the greatest int, a wrong one", full(8) + "\x7F\x05\x80\x00", 0, math.MaxInt, nil, 0, api.ErrForm},
		{"the greatest int, most one below", full(8) + "\x7F\x05\x06", 0, math.MaxInt - 1, nil, 0, api.ErrLong},
		{"no int", high(9) + "\x01\x05\x06", 0, math.MaxInt, nil, 0, api.ErrLong},
		{"2^64 - 1", full(9) + "\x01\x05", 0, math.MaxInt, nil, 0, api.ErrLong},
		{"2^64 - 1, most -1", full(9) + "\x01\x05", 0, -1, nil, 0, api.ErrLong},
		{"2^63, the least most", high(9) + "\x01\x05", 0, math.MinInt, nil, 0, api.ErrLong},
	}
	for _, x := range tests {
		if l, to, e := wire.GetAll(x.s, x.at, x.most); !slices.Equal(l, x.l) || to != x.to || e != x.e {
			t.Errorf("%s: GetAll(% X, %d, %d) = %v, %d, %d; want %v, %d, %d", x.name, x.s, x.at, x.most, l, to, e, x.l, x.to, x.e)
		}
	}
}

// P2.6: what is written is read again, whatever stands ahead of it and behind it.
func TestWrittenIsReadAgain(t *testing.T) {
	all := edgeNumbers()
	for _, ahead := range around {
		for _, behind := range around {
			for _, n := range all {
				w := wire.Put(n)
				if got, to, e := wire.Get(ahead+w+behind, len(ahead)); got != n || to != len(ahead)+len(w) || e != api.OK {
					t.Errorf("%d, written as % X, is read as %d, %d, %d", n, w, got, to, e)
				}
				f := wire.PutFour(uint32(n))
				if got, to, e := wire.GetFour(ahead+f+behind, len(ahead)); got != uint32(n) || to != len(ahead)+4 || e != api.OK {
					t.Errorf("%d, written as % X, is read as %d, %d, %d", uint32(n), f, got, to, e)
				}
			}
			w := wire.PutAll(all)
			if l, to, e := wire.GetAll(ahead+w+behind, len(ahead), len(all)); !slices.Equal(l, all) || to != len(ahead)+len(w) || e != api.OK {
				t.Errorf("a list of %d is read as %d, %d, %d", len(all), len(l), to, e)
			}
		}
	}
}

// P2.6: what is read, written again, is the bytes that were read.
func TestReadIsWrittenAgain(t *testing.T) {
	eachText([]byte{0x00, 0x01, 0x02, 0x03, 0x7F, 0x80, 0x81, 0xFF}, 5, func(s string) {
		for at := range len(s) {
			if n, to, e := wire.Get(s, at); e == api.OK && wire.Put(n) != s[at:to] {
				t.Errorf("% X is read as %d, written as % X", s[at:to], n, wire.Put(n))
			}
			if n, to, e := wire.GetFour(s, at); e == api.OK && wire.PutFour(n) != s[at:to] {
				t.Errorf("% X is read as %d, written as % X", s[at:to], n, wire.PutFour(n))
			}
			if x, to, e := wire.GetText(s, at, 9); e == api.OK && wire.PutText(x) != s[at:to] {
				t.Errorf("% X is read as % X, written as % X", s[at:to], x, wire.PutText(x))
			}
			if l, to, e := wire.GetAll(s, at, 9); e == api.OK && wire.PutAll(l) != s[at:to] {
				t.Errorf("% X is read as %v, written as % X", s[at:to], l, wire.PutAll(l))
			}
		}
	})
}

// P2.6: one behind the other, each is read where the last one ended.
func TestOneBehindTheOther(t *testing.T) {
	s := wire.Put(300) + wire.PutText("ab\x80") + wire.PutFour(0x80000001) + wire.PutAll([]uint64{1 << 63, 7}) + wire.Put(0)
	n, at, e := wire.Get(s, 0)
	if n != 300 || e != api.OK {
		t.Error(n, at, e)
	}
	x, at, e := wire.GetText(s, at, 3)
	if x != "ab\x80" || e != api.OK {
		t.Error(x, at, e)
	}
	f, at, e := wire.GetFour(s, at)
	if f != 0x80000001 || e != api.OK {
		t.Error(f, at, e)
	}
	l, at, e := wire.GetAll(s, at, 2)
	if !slices.Equal(l, []uint64{1 << 63, 7}) || e != api.OK {
		t.Error(l, at, e)
	}
	if n, at, e = wire.Get(s, at); n != 0 || at != len(s) || e != api.OK {
		t.Error(n, at, e)
	}
}

// R1 and R4: answers share no memory with what was given, lists are left as they were, and calls may run side by side.
func TestAnswersAreTheirOwn(t *testing.T) {
	s := strings.Clone("\x05hello")
	x, _, _ := wire.GetText(s, 0, 9)
	if unsafe.StringData(x) == unsafe.StringData(s[1:]) {
		t.Error("the text that is answered is a part of the one that was given")
	}
	l := []uint64{1, 2, 3}
	w := wire.PutAll(l)
	a, _, _ := wire.GetAll(w, 0, 3)
	b, _, _ := wire.GetAll(w, 0, 3)
	a[0] = 9
	if b[0] != 1 || !slices.Equal(l, []uint64{1, 2, 3}) {
		t.Error(a, b, l)
	}
	var all sync.WaitGroup
	for i := range 8 {
		all.Go(func() {
			for n := range uint64(2000) {
				n = n<<uint(7*i) | n
				if got, _, e := wire.Get(wire.Put(n), 0); got != n || e != api.OK {
					t.Error(n, got, e)
				}
			}
		})
	}
	all.Wait()
}

// P1 of the whole: any bytes, any place, any bound. What is told is as the chapter's words tell it.
func FuzzGet(f *testing.F) {
	f.Add("\xAC\x02\x07", 0, 9)
	f.Add(full(9)+"\x01", 0, -1)
	f.Fuzz(func(t *testing.T, s string, at, most int) {
		checkGet(t, s, at)
		if x, to, e := wire.GetText(s, at, most); e == api.OK && wire.PutText(x) != s[at:to] {
			t.Errorf("GetText(% X, %d, %d) = % X, %d", s, at, most, x, to)
		}
		if l, to, e := wire.GetAll(s, at, most); e == api.OK && wire.PutAll(l) != s[at:to] {
			t.Errorf("GetAll(% X, %d, %d) = %v, %d", s, at, most, l, to)
		}
		wire.GetFour(s, at)
	})
}
