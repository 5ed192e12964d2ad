package set_test

import (
	"slices"
	"strings"
	"sync"
	"testing"

	"fretsaw/api"
	"fretsaw/set"
)

// in is api's word: the byte b is in a set, if the bit b mod 64 of S[b / 64] is 1.
func in(a api.Set, b int) bool { return a.S[b/64]&(1<<uint(b%64)) != 0 }

// such is the set of the bytes of which something holds, bit by bit by api's word.
func such(holds func(b int) bool) api.Set {
	var a api.Set
	for b := range 256 {
		if holds(b) {
			a.S[b/64] |= 1 << uint(b%64)
		}
	}
	return a
}

func none() api.Set { return api.Set{} }

func full() api.Set { return such(func(int) bool { return true }) }

func only(b int) api.Set { return such(func(x int) bool { return x == b }) }

// everyByte is all 256 of them, rising.
func everyByte() string {
	var out []byte
	for b := range 256 {
		out = append(out, byte(b))
	}
	return string(out)
}

// spread is a number that looks like chance, the same one each time.
func spread(n uint64) uint64 {
	n += 0x9E3779B97F4A7C15
	n = (n ^ n>>30) * 0xBF58476D1CE4E5B9
	n = (n ^ n>>27) * 0x94D049BB133111EB
	return n ^ n>>31
}

// scattered is a set that looks like chance; with thin 1, 2 .. it has about a half, a quarter .. of all bytes.
func scattered(n uint64, thin int) api.Set {
	a := full()
	for i := range a.S {
		for j := range thin {
			a.S[i] &= spread(n<<16 | uint64(i)<<8 | uint64(j))
		}
	}
	return a
}

// sets are those at the edges, and many between.
func sets() []api.Set {
	out := []api.Set{none(), full()}
	for _, b := range []int{0, 1, 7, 8, 31, 32, 63, 64, 65, 97, 127, 128, 191, 192, 254, 255} {
		out = append(out, only(b), such(func(x int) bool { return x != b }),
			such(func(x int) bool { return x < b }), such(func(x int) bool { return x >= b }))
	}
	for i := range 4 {
		out = append(out, such(func(x int) bool { return x/64 == i }))
	}
	for bit := range 8 {
		out = append(out, such(func(x int) bool { return x>>bit&1 == 1 }))
	}
	for n := range uint64(40) {
		out = append(out, scattered(n, int(n%4)+1))
	}
	return out
}

// The chapter's own examples.
func TestExamples(t *testing.T) {
	if got := set.Bytes(set.Of("cab")); got != "abc" {
		t.Errorf("Bytes(Of(cab)) = %q", got)
	}
	if got := set.Count(set.Range('a', 'z')); got != 26 {
		t.Error("Count(Range(a, z)) =", got)
	}
	if got := set.Count(set.Range(2, 1)); got != 0 {
		t.Error("Count(Range(2, 1)) =", got)
	}
	class, n := set.Classes([]api.Set{set.Of("a"), set.Range('a', 'c')})
	var want [256]uint8
	want['a'], want['b'], want['c'] = 1, 2, 2
	if class != want || n != 3 {
		t.Error("Classes(Of(a), Range(a, c)) =", class, n)
	}
}

// P5.1: Of holds just the bytes of the text, whatever their order and however often they stand.
func TestOf(t *testing.T) {
	texts := []string{"", "a", "\x00", "\xff", "aa", "cab", "abcabc", "zyx\x00zyx", "\x80\x80\x7f", "\xff\x00\xff",
		"\xc3\xa9", "\u00e9\u20ac\U0001F600", "\xed\xa0\x80", everyByte(), everyByte() + everyByte(), strings.Repeat("b", 10000)}
	for b := range 256 {
		texts = append(texts, string([]byte{byte(b)}), string([]byte{byte(b), 'm', byte(b)}))
	}
	for n := range uint64(100) {
		var s []byte
		for i := range n {
			s = append(s, byte(spread(n<<32|i)))
		}
		texts = append(texts, string(s))
	}
	for _, s := range texts {
		want := such(func(b int) bool { return strings.IndexByte(s, byte(b)) >= 0 })
		if got := set.Of(s); got != want {
			t.Errorf("Of(%q) = %X; want %X", s, got, want)
		}
		turned := []byte(s)
		slices.Reverse(turned)
		if got := set.Of(string(turned)); got != want {
			t.Errorf("Of(%q) = %X; want %X", turned, got, want)
		}
	}
	if set.Of("") != none() || set.Of(everyByte()) != full() {
		t.Error("Of the empty text, or of all bytes")
	}
}

// P5.1: Range at each pair of bytes, so also with lo below hi, the same, above, and at 0 and 255.
func TestRange(t *testing.T) {
	for lo := range 256 {
		for hi := range 256 {
			want := such(func(b int) bool { return lo <= b && b <= hi })
			if got := set.Range(byte(lo), byte(hi)); got != want {
				t.Errorf("Range(%d, %d) = %X; want %X", lo, hi, got, want)
			}
		}
	}
	if set.Range(0, 255) != full() || set.Range(255, 0) != none() || set.Range(255, 255) != only(255) || set.Range(0, 0) != only(0) {
		t.Error("Range at 0 and 255")
	}
}

// P5.1: Bytes, each once and rising; Has; Count.
func checkOne(t *testing.T, a api.Set) {
	t.Helper()
	var want []byte
	for b := range 256 {
		if in(a, b) {
			want = append(want, byte(b))
		}
		if got := set.Has(a, byte(b)); got != in(a, b) {
			t.Errorf("Has(%X, %d) = %v", a, b, got)
		}
	}
	if got := set.Bytes(a); got != string(want) {
		t.Errorf("Bytes(%X) = %q; want %q", a, got, want)
	}
	if got := set.Count(a); got != len(want) {
		t.Errorf("Count(%X) = %d; want %d", a, got, len(want))
	}
	if got := set.Of(set.Bytes(a)); got != a {
		t.Errorf("Of(Bytes(%X)) = %X", a, got)
	}
}

func TestBytesHasCount(t *testing.T) {
	for _, a := range sets() {
		checkOne(t, a)
	}
	for b := range 256 {
		checkOne(t, only(b))
		checkOne(t, such(func(x int) bool { return x != b }))
	}
	if set.Count(none()) != 0 || set.Count(only(77)) != 1 || set.Count(full()) != 256 {
		t.Error("Count of none, of one, of all")
	}
	if set.Bytes(none()) != "" || set.Bytes(full()) != everyByte() {
		t.Error("Bytes of none, of all")
	}
}

// P5.2: Join, Meet and Not, byte by byte.
func checkTwo(t *testing.T, a, b api.Set) {
	t.Helper()
	join, meet, not := set.Join(a, b), set.Meet(a, b), set.Not(a)
	for x := range 256 {
		if in(join, x) != (in(a, x) || in(b, x)) {
			t.Errorf("Join(%X, %X) at %d: %v", a, b, x, in(join, x))
		}
		if in(meet, x) != (in(a, x) && in(b, x)) {
			t.Errorf("Meet(%X, %X) at %d: %v", a, b, x, in(meet, x))
		}
		if in(not, x) == in(a, x) {
			t.Errorf("Not(%X) at %d: %v", a, x, in(not, x))
		}
	}
}

func TestJoinMeetNot(t *testing.T) {
	for _, a := range sets() {
		for _, b := range sets() {
			checkTwo(t, a, b)
		}
	}
	if set.Not(none()) != full() || set.Not(full()) != none() {
		t.Error("Not of none, of all")
	}
}

// P5.4: the rules of sets.
func checkRules(t *testing.T, a, b api.Set) {
	t.Helper()
	for i, holds := range []bool{
		set.Not(set.Join(a, b)) == set.Meet(set.Not(a), set.Not(b)),
		set.Not(set.Meet(a, b)) == set.Join(set.Not(a), set.Not(b)),
		set.Join(a, set.Meet(a, b)) == a,
		set.Meet(a, set.Join(a, b)) == a,
		set.Not(set.Not(a)) == a,
		set.Join(a, b) == set.Join(b, a),
		set.Meet(a, b) == set.Meet(b, a),
		set.Join(a, a) == a && set.Meet(a, a) == a,
		set.Join(a, set.Not(a)) == full() && set.Meet(a, set.Not(a)) == none(),
		set.Count(a)+set.Count(b) == set.Count(set.Join(a, b))+set.Count(set.Meet(a, b)),
	} {
		if !holds {
			t.Errorf("rule %d does not hold of %X, %X", i, a, b)
		}
	}
}

func TestRules(t *testing.T) {
	all := sets()
	for i, a := range all {
		for j, b := range all {
			checkRules(t, a, b)
			c := all[(7*i+11*j)%len(all)]
			if set.Meet(a, set.Join(b, c)) != set.Join(set.Meet(a, b), set.Meet(a, c)) {
				t.Errorf("Meet does not go into Join of %X, %X, %X", a, b, c)
			}
			if set.Join(a, set.Join(b, c)) != set.Join(set.Join(a, b), c) {
				t.Errorf("Join hangs on how it is put together: %X, %X, %X", a, b, c)
			}
		}
	}
}

// P5.4: Bytes of Of is the text, if each byte stands in it once, rising.
func TestBytesUndoOf(t *testing.T) {
	texts := []string{"", "a", "abc", "\x00", "\xff", "\x00\xff", "\x3f\x40\x7f\x80\xbf\xc0", everyByte()}
	for n := range 257 {
		texts = append(texts, everyByte()[:n], everyByte()[n:])
	}
	for _, s := range texts {
		if got := set.Bytes(set.Of(s)); got != s {
			t.Errorf("Bytes(Of(%q)) = %q", s, got)
		}
	}
}

// alike is P5.3's word: each set has both, or neither.
func alike(l []api.Set, x, y int) bool {
	for _, a := range l {
		if in(a, x) != in(a, y) {
			return false
		}
	}
	return true
}

// meantClasses is P5.3: each byte is held against the least byte of each class that is there.
func meantClasses(l []api.Set) ([256]uint8, int) {
	var class [256]uint8
	var least []int
	for b := range 256 {
		n := slices.IndexFunc(least, func(x int) bool { return alike(l, x, b) })
		if n < 0 {
			n = len(least)
			least = append(least, b)
		}
		class[b] = uint8(n)
	}
	return class, len(least)
}

// wholeClasses: no class has both bytes that are in a set and bytes that are not.
func wholeClasses(a api.Set, class [256]uint8) bool {
	var some, others [256]bool
	for b := range 256 {
		if in(a, b) {
			some[class[b]] = true
		} else {
			others[class[b]] = true
		}
	}
	for i := range some {
		if some[i] && others[i] {
			return false
		}
	}
	return true
}

func checkClasses(t *testing.T, name string, l []api.Set) int {
	t.Helper()
	before := slices.Clone(l)
	class, n := set.Classes(l)
	want, wn := meantClasses(l)
	if class != want || n != wn {
		t.Errorf("%s: Classes = %v, %d; want %v, %d", name, class, n, want, wn)
	}
	for _, a := range l {
		if !wholeClasses(a, class) {
			t.Errorf("%s: %X is no whole number of classes", name, a)
		}
	}
	if !slices.Equal(l, before) {
		t.Errorf("%s: the list was changed", name)
	}
	return n
}

func wantClasses(t *testing.T, name string, l []api.Set, wn int) {
	t.Helper()
	if n := checkClasses(t, name, l); n != wn {
		t.Errorf("%s: %d classes; want %d", name, n, wn)
	}
}

func TestClassesOfFewSets(t *testing.T) {
	a := set.Of("xyz")
	wantClasses(t, "no list", nil, 1)
	wantClasses(t, "no set", []api.Set{}, 1)
	wantClasses(t, "the empty set", []api.Set{none()}, 1)
	wantClasses(t, "the full set", []api.Set{full()}, 1)
	wantClasses(t, "both", []api.Set{none(), full(), none()}, 1)
	wantClasses(t, "one set", []api.Set{a}, 2)
	wantClasses(t, "a set twice", []api.Set{a, a}, 2)
	wantClasses(t, "a set and its Not", []api.Set{a, set.Not(a)}, 2)
	wantClasses(t, "a set among empty and full ones", []api.Set{none(), a, full(), a, none()}, 2)
	wantClasses(t, "two that meet", []api.Set{set.Range(10, 20), set.Range(15, 30)}, 4)
	wantClasses(t, "two that do not", []api.Set{set.Range(10, 20), set.Range(21, 30)}, 3)
	wantClasses(t, "two that are all", []api.Set{set.Range(0, 99), set.Range(100, 255)}, 2)
	wantClasses(t, "a set that comes again behind another one", []api.Set{a, only(5), a, only(6), only(5)}, 4)
	for b := range 256 {
		wantClasses(t, "one byte", []api.Set{only(b)}, 2)
	}
	for _, a := range sets() {
		for _, b := range sets() {
			checkClasses(t, "two sets", []api.Set{a, b})
		}
	}
}

// P5.3: classes are numbered by their least bytes, so the byte 0 is always of class 0, and a new number is one above the greatest so far.
func TestClassesAreNumberedByTheirLeastBytes(t *testing.T) {
	lists := [][]api.Set{nil, sets()[:3], sets(), {full(), only(0)}, {only(255)}, {only(0), only(255)}, {set.Range(0, 9)}, {set.Range(5, 255), only(200)}}
	for _, l := range lists {
		class, n := set.Classes(l)
		next := 0
		for b, c := range class {
			if int(c) > next {
				t.Errorf("%d sets: byte %d is of class %d, ahead of %d", len(l), b, c, next)
			}
			if int(c) == next {
				next++
			}
		}
		if next != n {
			t.Errorf("%d sets: %d classes are told, and %d are there", len(l), n, next)
		}
	}
	class, n := set.Classes([]api.Set{set.Range(100, 109), set.Range(50, 59), set.Of("\x32\x64")})
	if n != 5 || class[0] != 0 || class[50] != 1 || class[51] != 2 || class[100] != 3 || class[101] != 4 || class[255] != 0 {
		t.Error(class, n)
	}
}

// apart are lists that part every byte from every other one.
func apart() map[string][]api.Set {
	var bits, firsts, ones, nots []api.Set
	for bit := range 8 {
		bits = append(bits, such(func(b int) bool { return b>>bit&1 == 1 }))
	}
	for n := range 255 {
		firsts = append(firsts, such(func(b int) bool { return b <= n }))
	}
	for n := range 256 {
		ones = append(ones, only(n))
		nots = append(nots, such(func(b int) bool { return b != n }))
	}
	lasts := slices.Clone(firsts)
	slices.Reverse(lasts)
	return map[string][]api.Set{"bits": bits, "first bytes": firsts, "first bytes, the most first": lasts, "single bytes": ones, "all but one": nots}
}

// All bytes apart: each one's class is its own number.
func TestAllClasses(t *testing.T) {
	for name, l := range apart() {
		wantClasses(t, name, l, 256)
		wantClasses(t, name+", twice", slices.Concat(l, l), 256)
		class, _ := set.Classes(l)
		for b, c := range class {
			if int(c) != b {
				t.Errorf("%s: byte %d is of class %d", name, b, c)
			}
		}
	}
	wantClasses(t, "seven bits", apart()["bits"][:7], 128)
	wantClasses(t, "single bytes but one", apart()["single bytes"][:255], 256)
	wantClasses(t, "single bytes but two", apart()["single bytes"][:254], 255)
}

// Lists of each length: each set parts one class more than those ahead of it, so none may be passed over.
func TestClassesOfManySets(t *testing.T) {
	for _, name := range []string{"first bytes", "first bytes, the most first"} {
		l := apart()[name]
		for n := range len(l) + 1 {
			wantClasses(t, name, l[:n], n+1)
		}
	}
	var l []api.Set
	for n := range uint64(80) {
		l = append(l, scattered(n, 5), scattered(n/2, 5))
		checkClasses(t, "scattered", l)
	}
	many := make([]api.Set, 20000)
	for i := range many {
		many[i] = scattered(uint64(i%700), 6)
	}
	checkClasses(t, "many", append(many, only(3)))
}

// P5.4: with the classes of a list, Join, Meet and Not of its sets are whole numbers of classes, too.
func TestSetsAreWholeClasses(t *testing.T) {
	l := sets()[2:9]
	class, _ := set.Classes(l)
	for _, a := range l {
		for _, b := range l {
			for _, c := range []api.Set{a, set.Join(a, b), set.Meet(a, b), set.Not(a)} {
				if !wholeClasses(c, class) {
					t.Errorf("%X is no whole number of classes", c)
				}
			}
		}
	}
}

// R1: calls at one time tell what one tells alone.
func TestNothingIsKept(t *testing.T) {
	l := sets()
	var all sync.WaitGroup
	for i := range 8 {
		all.Go(func() {
			for j, a := range l {
				checkOne(t, a)
				checkTwo(t, a, l[(i+j)%len(l)])
				checkClasses(t, "at one time", l[j:min(j+i, len(l))])
			}
		})
	}
	all.Wait()
}

func FuzzSet(f *testing.F) {
	f.Add("cab", "abc\xff", byte('a'), byte('c'))
	f.Add("", everyByte(), byte(2), byte(1))
	f.Add("\x00\x3f\x40\xff", "\x80", byte(0), byte(255))
	f.Fuzz(func(t *testing.T, s, u string, lo, hi byte) {
		a, b, c := set.Of(s), set.Of(u), set.Range(lo, hi)
		for _, x := range []api.Set{a, b, c} {
			checkOne(t, x)
			checkTwo(t, x, a)
			checkRules(t, x, b)
		}
		checkClasses(t, "three", []api.Set{a, b, c})
		checkClasses(t, "five", []api.Set{c, a, c, b, set.Not(a)})
	})
}
