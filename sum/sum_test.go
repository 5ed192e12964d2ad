package sum_test

import (
	"math"
	"strings"
	"sync"
	"testing"

	"fretsaw/sum"
)

// stepped is the chapter's step of a register over a bit.
func stepped(r, d uint32) uint32 {
	l := r & 1
	r >>= 1
	if l != d {
		r ^= 0xEDB88320
	}
	return r
}

// through steps a register over a text, one bit at a time.
func through(r uint32, s string) uint32 {
	for i := range len(s) {
		for bit := range 8 {
			r = stepped(r, uint32(s[i]>>bit)&1)
		}
	}
	return r
}

// meant is P3.1's On; the sum of a text is that of the register whose bits are all 1.
func meant(c uint32, s string) uint32 { return ^through(^c, s) }

func meantOf(s string) uint32 { return ^through(0xFFFFFFFF, s) }

// matrix is what a register of one bit alone becomes, for each bit: another way than the program's to go over many bytes 0.
type matrix [32]uint32

func (m *matrix) of(r uint32) uint32 {
	var out uint32
	for i := range m {
		if r>>i&1 == 1 {
			out ^= m[i]
		}
	}
	return out
}

func (m *matrix) twice() *matrix {
	var out matrix
	for i := range out {
		out[i] = m.of(m[i])
	}
	return &out
}

// meantNoughts is P3.2's Noughts, by matrices that are squared.
func meantNoughts(c uint32, n uint64) uint32 {
	m := &matrix{}
	for i := range m {
		m[i] = through(1<<i, "\x00")
	}
	r := ^c
	for ; n > 0; n /= 2 {
		if n%2 == 1 {
			r = m.of(r)
		}
		m = m.twice()
	}
	return ^r
}

// spread is a number that looks like chance, the same one each time.
func spread(n uint64) uint64 {
	n += 0x9E3779B97F4A7C15
	n = (n ^ n>>30) * 0xBF58476D1CE4E5B9
	n = (n ^ n>>27) * 0x94D049BB133111EB
	return n ^ n>>31
}

// textOf is a text of that many bytes that look like chance.
func textOf(seed uint64, size int) string {
	out := make([]byte, size)
	for i := range out {
		out[i] = byte(spread(seed<<32 + uint64(i)))
	}
	return string(out)
}

// texts are the empty one, each of one byte, ordinary ones, and such as stand at edges.
func texts() []string {
	out := []string{"", "123456789", "a", "ab", "fretsaw", "\x00\x00\x00\x00", "\xFF\xFF\xFF\xFF", "\xFF\xFF\xFF\xFF\x00", "\x00a", "a\x00", "é\u00A0中", "\xC3\x28"}
	for b := range 256 {
		out = append(out, string([]byte{byte(b)}))
	}
	for size := range 70 {
		out = append(out, textOf(uint64(size), size), strings.Repeat("\x00", size), strings.Repeat("\xFF", size))
	}
	return append(out, textOf(99, 4096), textOf(98, 4097), textOf(97, 100003))
}

// registers are all that have one bit or lack one, none and all, the table's own, and some that look like chance.
func registers() []uint32 {
	out := []uint32{0, math.MaxUint32, 0xEDB88320, ^uint32(0xEDB88320), 0xCBF43926, 0x2144DF1C, 0x12345678, 0x80000001}
	for bit := range 32 {
		out = append(out, 1<<bit, ^uint32(1<<bit), math.MaxUint32>>bit, math.MaxUint32<<bit)
	}
	for i := range 32 {
		out = append(out, uint32(spread(uint64(i))))
	}
	return out
}

// turned is a text with those bits of a word turned in it that stand at a bit of it, the text's bits going from each byte's lowest one on.
func turned(s string, at int, word uint32) string {
	out := []byte(s)
	for i := range 32 {
		if word>>i&1 == 1 {
			out[(at+i)/8] ^= 1 << ((at + i) % 8)
		}
	}
	return string(out)
}

// sealed is a text with its sum behind it.
func sealed(s string) string {
	c := sum.Of(s)
	return s + string([]byte{byte(c), byte(c >> 8), byte(c >> 16), byte(c >> 24)})
}

// whole tells whether a text's last four bytes are the sum of what stands ahead of them.
func whole(s string) bool { return sealed(s[:len(s)-4]) == s }

// windows are words to be turned, of each length: its ends alone, all of it, and some of it.
func windows() []uint32 {
	var out []uint32
	for size := range 32 {
		ends := uint32(1) | 1<<size
		all := uint32(math.MaxUint32) >> (31 - size)
		out = append(out, ends, all, ends|all&0x55555555, ends|all&0xEDB88320, ends|all&0x04C11DB7)
		for i := range 4 {
			out = append(out, ends|all&uint32(spread(uint64(size*4+i))))
		}
	}
	return out
}

// fits tells whether the word's bits stand within the text, from that bit on.
func fits(s string, at int, word uint32) bool {
	for i := range 32 {
		if word>>i&1 == 1 && at+i >= 8*len(s) {
			return false
		}
	}
	return true
}

// The chapter's examples.
func TestExamples(t *testing.T) {
	calls := []struct {
		name     string
		got, ask uint32
	}{
		{"Of(empty)", sum.Of(""), 0},
		{"Of(123456789)", sum.Of("123456789"), 0xCBF43926},
		{"Of(a)", sum.Of("a"), 0xE8B7BE43},
		{"On(Of(a), b)", sum.On(sum.Of("a"), "b"), 0x9E83486D},
		{"Of(ab)", sum.Of("ab"), 0x9E83486D},
		{"Noughts(0, 4)", sum.Noughts(0, 4), 0x2144DF1C},
		{"Of(00 00 00 00)", sum.Of("\x00\x00\x00\x00"), 0x2144DF1C},
	}
	for _, x := range calls {
		if x.got != x.ask {
			t.Errorf("%s = %X; want %X", x.name, x.got, x.ask)
		}
	}
}

// P3.1: Of is the sum, by the chapter's steps.
func TestOfIsTheSum(t *testing.T) {
	for _, s := range texts() {
		if got, want := sum.Of(s), meantOf(s); got != want {
			t.Errorf("Of of %d bytes = %X; want %X", len(s), got, want)
		}
	}
}

// P3.1, each entry of the table: every text of two bytes.
func TestOfEveryTwoBytes(t *testing.T) {
	for a := range 256 {
		for b := range 256 {
			s := string([]byte{byte(a), byte(b)})
			if got, want := sum.Of(s), meantOf(s); got != want {
				t.Fatalf("Of(% X) = %X; want %X", s, got, want)
			}
		}
	}
}

// P3.1: On goes on from any register, and leaves it as it is at the empty text.
func TestOnFromAnyRegister(t *testing.T) {
	short := texts()[:12+256+60]
	for _, c := range registers() {
		for _, s := range short {
			if got, want := sum.On(c, s), meant(c, s); got != want {
				t.Fatalf("On(%X, % X) = %X; want %X", c, s, got, want)
			}
		}
		if got := sum.On(c, ""); got != c {
			t.Errorf("On(%X, empty) = %X", c, got)
		}
	}
}

// P3.2, small numbers: On of so many bytes that are 0; none leave the register as it is.
func TestNoughtsIsOn(t *testing.T) {
	zeros := strings.Repeat("\x00", 1<<16+1)
	for _, c := range registers() {
		if got := sum.Noughts(c, 0); got != c {
			t.Errorf("Noughts(%X, 0) = %X", c, got)
		}
		if got, want := sum.Noughts(c, 1), meant(c, "\x00"); got != want {
			t.Errorf("Noughts(%X, 1) = %X; want %X", c, got, want)
		}
		for n := range 300 {
			if got, want := sum.Noughts(c, uint64(n)), sum.On(c, zeros[:n]); got != want {
				t.Fatalf("Noughts(%X, %d) = %X; want %X", c, n, got, want)
			}
		}
		for _, n := range []int{1<<12 - 1, 1 << 12, 1<<16 - 1, 1 << 16, 1<<16 + 1} {
			if got, want := sum.Noughts(c, uint64(n)), sum.On(c, zeros[:n]); got != want {
				t.Fatalf("Noughts(%X, %d) = %X; want %X", c, n, got, want)
			}
		}
	}
}

// great are numbers up to 2^64 - 1: of one bit, of all below one, and some that look like chance.
func great() []uint64 {
	out := []uint64{0, 1, 2, 3, 255, 256, math.MaxUint32, 1 << 32, math.MaxInt64, 1 << 63, math.MaxUint64 - 1, math.MaxUint64}
	for bit := range 64 {
		out = append(out, 1<<bit, math.MaxUint64>>bit, math.MaxUint64<<bit, spread(uint64(bit)), spread(uint64(bit))>>bit)
	}
	return out
}

// P3.2, great numbers: what the squared steps tell, told at once.
func TestNoughtsOfGreatNumbers(t *testing.T) {
	for _, n := range great() {
		for _, c := range []uint32{0, 1, 1 << 31, math.MaxUint32, 0xCBF43926, uint32(spread(n))} {
			if got, want := sum.Noughts(c, n), meantNoughts(c, n); got != want {
				t.Fatalf("Noughts(%X, %d) = %X; want %X", c, n, got, want)
			}
		}
	}
}

// P3.2: so many, and so many behind them, are as many as both, wherever the two have room together.
func TestNoughtsOneAfterTheOther(t *testing.T) {
	pairs := 0
	for _, a := range great() {
		for _, b := range great() {
			if a > math.MaxUint64-b {
				continue
			}
			pairs++
			c := uint32(spread(a + 3*b))
			if got, want := sum.Noughts(sum.Noughts(c, a), b), sum.Noughts(c, a+b); got != want {
				t.Fatalf("Noughts of %d, then of %d: %X; of both: %X", a, b, got, want)
			}
		}
	}
	for _, a := range great() {
		c := uint32(spread(a))
		if got, want := sum.Noughts(sum.Noughts(c, a), math.MaxUint64-a), sum.Noughts(c, math.MaxUint64); got != want {
			t.Fatalf("Noughts of %d, then of the rest up to 2^64 - 1: %X; want %X", a, got, want)
		}
	}
	if pairs < 10000 {
		t.Errorf("only %d pairs", pairs)
	}
}

// P3.2: the bytes 0 come back to where they were after 2^32 - 1 of them, since the steps' own number of turns is that.
func TestNoughtsComeRound(t *testing.T) {
	for _, c := range registers() {
		if a, b := sum.Noughts(c, math.MaxUint32), sum.Noughts(c, math.MaxUint64); a != c || b != c {
			t.Errorf("%X goes to %X and %X", c, a, b)
		}
		if a, b := sum.Noughts(c, 1<<32), sum.Noughts(c, 1); a != b {
			t.Errorf("%X goes to %X; want %X", c, a, b)
		}
	}
}

// P3.3: two texts, one behind the other; the empty text.
func TestOfTwoTexts(t *testing.T) {
	if got := sum.Of(""); got != 0 {
		t.Errorf("Of of the empty text is %X", got)
	}
	all := texts()[:12+256]
	for _, a := range all {
		for i := range len(all) / 3 {
			b := all[i*3]
			if got, want := sum.On(sum.Of(a), b), sum.Of(a+b); got != want {
				t.Fatalf("On(Of(% X), % X) = %X; want %X", a, b, got, want)
			}
		}
	}
	long := textOf(5, 700)
	for cut := range len(long) + 1 {
		if got, want := sum.On(sum.Of(long[:cut]), long[cut:]), sum.Of(long); got != want {
			t.Fatalf("cut at %d: %X; want %X", cut, got, want)
		}
	}
}

// P3.4: bits turned within 32, at each bit of a text, make another sum.
func TestTurnedBitsOfAText(t *testing.T) {
	for _, s := range []string{"a", "ab", "abcd", "fretsaw", "\x00\x00\x00\x00\x00\x00", textOf(1, 9), textOf(2, 40), strings.Repeat("\xFF", 12)} {
		c := sum.Of(s)
		for at := range 8 * len(s) {
			for _, word := range windows() {
				if fits(s, at, word) && sum.Of(turned(s, at, word)) == c {
					t.Fatalf("% X: the bits %X turned at %d are not found", s, word, at)
				}
			}
		}
	}
}

// P3.4: so do they in a text with its sum behind it: in the text, in the sum, and in both.
func TestTurnedBitsOfASealedText(t *testing.T) {
	for _, s := range []string{"", "a", "ab", "abc", "abcd", "fretsaw", "\x00\x00\x00\x00\x00\x00", textOf(3, 33)} {
		both := sealed(s)
		if !whole(both) {
			t.Fatalf("% X with its sum behind it is not its sum's", s)
		}
		for at := range 8 * len(both) {
			for _, word := range windows() {
				if fits(both, at, word) && whole(turned(both, at, word)) {
					t.Fatalf("% X: the bits %X turned at %d are not found", both, word, at)
				}
			}
		}
	}
}

// P3.4, where 32 bits end: as many as 33 are not always found, so that the tests above do look for something.
func TestTurnedBitsBeyondTheWindow(t *testing.T) {
	s := textOf(4, 20)
	same := turned(turned(s, 3, 1), 4, 0xEDB88320)
	if same == s || sum.Of(same) != sum.Of(s) {
		t.Errorf("%X and %X", sum.Of(same), sum.Of(s))
	}
}

// P3.5: of three texts of one length, the bits that are 1 in just one or all three.
func TestThreeTextsOfOneLength(t *testing.T) {
	for size := range 120 {
		for seed := range uint64(6) {
			x, y, z := textOf(seed, size), textOf(seed+100, size), textOf(seed+200, size)
			odd := make([]byte, size)
			for i := range odd {
				odd[i] = x[i] ^ y[i] ^ z[i]
			}
			if got, want := sum.Of(string(odd)), sum.Of(x)^sum.Of(y)^sum.Of(z); got != want {
				t.Fatalf("%d bytes: %X; want %X", size, got, want)
			}
		}
	}
	a, b, c := "abc", "xyz", "\x00\xFF\x80"
	if got, want := sum.Of("\x19\xE4\x99"), sum.Of(a)^sum.Of(b)^sum.Of(c); got != want {
		t.Errorf("%X; want %X", got, want)
	}
	if got, want := sum.Of(a), sum.Of(a)^sum.Of(b)^sum.Of(b); got != want {
		t.Errorf("%X; want %X", got, want)
	}
}

// R1: a call is a function of its arguments alone, whoever else calls at one time.
func TestNothingIsKept(t *testing.T) {
	long := textOf(7, 3000)
	of, on, noughts := meantOf(long), meant(5, long), meantNoughts(9, math.MaxUint64-7)
	var all sync.WaitGroup
	for range 8 {
		all.Go(func() {
			for range 50 {
				if sum.Of(long) != of || sum.On(5, long) != on || sum.Noughts(9, math.MaxUint64-7) != noughts {
					t.Error("an answer is another one")
					return
				}
			}
		})
	}
	all.Wait()
}

func FuzzSum(f *testing.F) {
	f.Add(uint32(0), "123456789", uint64(4), uint64(1))
	f.Add(uint32(math.MaxUint32), "", uint64(math.MaxUint64), uint64(0))
	f.Fuzz(func(t *testing.T, c uint32, s string, n, m uint64) {
		if got, want := sum.On(c, s), meant(c, s); got != want {
			t.Errorf("On(%X, % X) = %X; want %X", c, s, got, want)
		}
		if got, want := sum.Of(s), meantOf(s); got != want {
			t.Errorf("Of(% X) = %X; want %X", s, got, want)
		}
		if got, want := sum.Noughts(c, n), meantNoughts(c, n); got != want {
			t.Errorf("Noughts(%X, %d) = %X; want %X", c, n, got, want)
		}
		if n <= math.MaxUint64-m && sum.Noughts(sum.Noughts(c, n), m) != sum.Noughts(c, n+m) {
			t.Errorf("Noughts(%X): %d, then %d", c, n, m)
		}
	})
}
