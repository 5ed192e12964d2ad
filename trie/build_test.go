package trie_test

import (
	"fmt"
	"maps"
	"slices"
	"strings"
	"sync"
	"testing"
	"unsafe"

	"fretsaw/api"
	"fretsaw/trie"
)

func checkFails(t *testing.T, words []string, want api.Errno) {
	t.Helper()
	if x, e := trie.Build(words); e != want || !nothing(x) {
		t.Errorf("Build(%s) = %s, %d; want %d alone", showWords(words), showTrie(x), e, want)
	}
}

// check makes a trie, in which just these words have a number, each its own.
func check(t *testing.T, words ...string) api.Trie {
	t.Helper()
	x, e := trie.Build(words)
	if e != api.OK || !trie.Right(x) || !meantRight(x) {
		t.Fatalf("Build(%s) = %s, %d", showWords(words), showTrie(x), e)
	}
	wants := map[string]int{}
	for i, s := range words {
		wants[s] = i
		if got := trie.Find(x, s); got != i {
			t.Errorf("Build(%s): Find(%q) = %d; want %d", showWords(words), s, got, i)
		}
	}
	if all := numbers(x); !maps.Equal(all, wants) {
		t.Errorf("Build(%s) has the words %s", showWords(words), showWords(slices.Sorted(maps.Keys(all))))
	}
	for _, s := range words {
		checkNear(t, x, wants, s)
	}
	return x
}

// checkNear looks at texts like a word: its beginnings, it with a byte more, and it with one changed.
func checkNear(t *testing.T, x api.Trie, wants map[string]int, s string) {
	t.Helper()
	near := []string{s + "a", s + "\x00", s + "\xff", s + s, "a" + s}
	for end := range len(s) {
		changed := []byte(s)
		changed[end]++
		near = append(near, s[:end], s[end:], string(changed))
	}
	for _, other := range near {
		want, there := wants[other]
		if !there {
			want = -1
		}
		if got := trie.Find(x, other); got != want {
			t.Errorf("%q: Find(%q) = %d; want %d", s, other, got, want)
		}
	}
}

// P16.2: no words: a trie that may be, in which no text has a number.
func TestNoWords(t *testing.T) {
	for _, words := range [][]string{nil, {}} {
		checkNone(t, check(t, words...))
	}
}

// P16.2: the empty word, alone and with others; it is not the same as none.
func TestEmptyWord(t *testing.T) {
	x := check(t, "")
	checkFind(t, x, "", 0)
	checkFind(t, x, "a", -1)
	checkLongest(t, x, "a", 0, 0, 0)
	checkLongest(t, x, "a", 1, 0, 1)
	check(t, "", "a")
	check(t, "a", "")
	check(t, "\x00", "", "\x00\x00")
	checkFails(t, []string{"", ""}, api.ErrTwice)
	checkFails(t, []string{"", "a", ""}, api.ErrTwice)
}

// P16.2: one word: each byte, alone and twice, and all lengths.
func TestOneWord(t *testing.T) {
	for b := range 256 {
		s := string([]byte{byte(b)})
		check(t, s)
		check(t, s+s)
		check(t, s+s, s)
	}
	all := allBytes()
	for many := range mostToken + 1 {
		check(t, all[:many])
		check(t, all[256-many:])
		check(t, strings.Repeat("\xff", many))
		check(t, strings.Repeat("\x00", many))
	}
}

// P16.2: as many words as may be, and one more.
func TestManyWords(t *testing.T) {
	words := drawn(dice(1), allBytes(), 8, mostWords+1)
	check(t, words[:mostWords-1]...)
	check(t, words[:mostWords]...)
	checkFails(t, words, api.ErrLong)
	words = drawn(dice(2), "ab", 12, mostWords+1)
	check(t, words[:mostWords]...)
	checkFails(t, words, api.ErrLong)
	checkFails(t, make([]string, mostWords), api.ErrTwice)
	checkFails(t, make([]string, mostWords+1), api.ErrLong) // also a word that stands twice
	checkFails(t, make([]string, 100*mostWords), api.ErrLong)
}

// P16.2: a word as long as may be, and one of a byte more: first, last, in the middle, and where another one stands twice.
func TestLongWords(t *testing.T) {
	check(t, long(""))
	check(t, long(""), long("b"), long("ba"), long("bb"))
	more := long("") + "a"
	checkFails(t, []string{more}, api.ErrLong)
	checkFails(t, []string{more, "a"}, api.ErrLong)
	checkFails(t, []string{"a", more}, api.ErrLong)
	checkFails(t, []string{"a", more, "b"}, api.ErrLong)
	checkFails(t, []string{"a", "a", more}, api.ErrLong)
	checkFails(t, []string{more, "a", "a"}, api.ErrLong)
	checkFails(t, []string{more, more}, api.ErrLong)
	checkFails(t, []string{long(""), long("")}, api.ErrTwice)
	checkFails(t, []string{strings.Repeat("x", 1<<20)}, api.ErrLong)
	checkFails(t, []string{strings.Repeat("é", 33)}, api.ErrLong) // bytes count
	check(t, strings.Repeat("é", 32))
}

// P16.2: a word that stands twice: side by side, far from one another, and three times.
func TestTwice(t *testing.T) {
	checkFails(t, []string{"a", "b", "a"}, api.ErrTwice)
	checkFails(t, []string{"ab", "a", "ab"}, api.ErrTwice)
	checkFails(t, []string{"a", "a", "a"}, api.ErrTwice)
	checkFails(t, []string{"\xff", "\xff"}, api.ErrTwice)
	checkFails(t, []string{"b", "a", "c", "b"}, api.ErrTwice)
	d := dice(4)
	for _, many := range []int{2, 3, 10, 100, mostWords} {
		for range 10 {
			words := drawn(d, "abcdef", 10, many)
			i := d.IntN(many)
			words[i] = strings.Clone(words[(i+1+d.IntN(many-1))%many])
			checkFails(t, words, api.ErrTwice)
		}
	}
}

// P16.2: words of which one begins another: shortest first, longest first, with gaps.
func TestBeginnings(t *testing.T) {
	var words []string
	for many := range mostToken + 1 {
		words = append(words, strings.Repeat("a", many))
	}
	check(t, words...)
	check(t, words[1:]...)
	slices.Reverse(words)
	check(t, words...)
	x := check(t, long(""), "a", strings.Repeat("a", 30))
	checkLongest(t, x, strings.Repeat("a", 63), 0, 2, 30)
	checkLongest(t, x, strings.Repeat("a", 29), 0, 1, 1)
	checkLongest(t, x, strings.Repeat("a", 65), 1, 0, 65)
	all := allBytes()
	words = nil
	for many := range mostToken {
		words = append(words, all[255-many:], all[255-many:255])
	}
	check(t, words[:64]...)
}

// P16.2: all bytes: each as a word, all pairs that begin alike, ends of long words, and as many pairs as there may be words.
func TestAllBytes(t *testing.T) {
	var words, first, second, ends []string
	for b := range 256 {
		s := string([]byte{byte(b)})
		words = append(words, s)
		first, second = append(first, s+"m"), append(second, "m"+s)
		ends = append(ends, long(s))
	}
	check(t, words...)
	check(t, append([]string{""}, words...)...)
	check(t, first...)
	check(t, second...)
	check(t, ends...)
	check(t, slices.Concat(words, first)...)
	slices.Reverse(words)
	check(t, words...)
	var pairs []string
	for a := range 8 {
		for _, s := range words {
			pairs = append(pairs, string([]byte{byte(a * 36)})+s)
		}
	}
	check(t, pairs...)
}

// P16.2: words that share much: long ones with other ends, and with other beginnings.
func TestShared(t *testing.T) {
	d := dice(5)
	var ends, beginnings []string
	for i := range mostWords {
		s := fmt.Sprintf("%04d", i)
		ends, beginnings = append(ends, long(s)), append(beginnings, s+strings.Repeat("z", mostToken-4))
	}
	check(t, shuffled(d, ends)...)
	check(t, shuffled(d, beginnings)...)
}

// spread is as many words as may be, of which so many each go through a state that has that many kids, of drawn bytes; behind these they go on for so many bytes.
func spread(n uint64, kids, behind int) (words []string) {
	d := dice(n)
	for len(words)+kids <= mostWords {
		group := len(words) / kids
		for _, b := range d.Perm(256)[:kids] {
			s := string([]byte{byte(group), byte(group >> 8), byte(b)})
			words = append(words, s+text(d, allBytes(), behind))
		}
	}
	return words
}

// P16.2: states of many kids that stand far apart, which find no room between others: the trie may be nonetheless; so it is with the longest words, which are the most states.
func TestSpread(t *testing.T) {
	for _, kids := range []int{2, 3, 5, 8, 17, 33, 64, 100, 128, 200, 256} {
		check(t, spread(uint64(kids), kids, 0)...)
	}
	for _, kids := range []int{2, 17, 256} {
		x, e := trie.Build(spread(uint64(kids), kids, mostToken-3))
		if e != api.OK || !trie.Right(x) {
			t.Errorf("%d kids: %d states, %d", kids, len(x.Base), e)
		}
	}
	d := dice(9)
	var words []string
	for i := range mostWords { // the most states: each word but for two bytes is its own
		words = append(words, string([]byte{byte(i % 256), byte(i / 256)})+text(d, allBytes(), mostToken-2))
	}
	x, e := trie.Build(words)
	if e != api.OK || !trie.Right(x) {
		t.Fatalf("the most states: %d, %d", len(x.Base), e)
	}
	for i, s := range words {
		if trie.Find(x, s) != i || trie.Find(x, s[:63]) != -1 {
			t.Fatalf("the most states: %q is not found", s)
		}
	}
}

// P16.2: the most states with two kids, these as far apart as can be: without room in common they would be too many.
func TestFarApart(t *testing.T) {
	var words, more []string
	for i := range mostWords {
		s := make([]byte, 11)
		for bit := range s {
			s[bit] = byte(-(i >> bit & 1))
		}
		words, more = append(words, string(s)), append(more, string(s)+text(dice(uint64(i)), allBytes(), mostToken-11))
	}
	check(t, words...)
	x, e := trie.Build(more)
	if e != api.OK || !trie.Right(x) {
		t.Fatalf("%d states, %d", len(x.Base), e)
	}
	for i, s := range more {
		checkFind(t, x, s, i)
		checkFind(t, x, words[i], -1)
	}
}

// P16.2: many drawn words, of few bytes and of all.
func TestDrawnWords(t *testing.T) {
	for n := range uint64(150) {
		d := dice(n)
		for _, bytes := range []string{"a", "ab", "\x00\xff", "abcxyz", allBytes()} {
			words := drawn(d, bytes, 1+d.IntN(9), 1+d.IntN(40))
			x := check(t, words...)
			for range 5 {
				s := text(d, bytes, 1+d.IntN(8))
				want := slices.Index(words, s)
				checkFind(t, x, s, want)
				checkMeant(t, x, s)
			}
		}
	}
}

// P16.2: the words' order counts for their numbers alone.
func TestOrder(t *testing.T) {
	d := dice(6)
	words := drawn(d, "abcde", 7, 200)
	x := check(t, words...)
	other := shuffled(d, words)
	y := check(t, other...)
	for _, s := range words {
		if got := other[trie.Find(y, s)]; got != s {
			t.Errorf("%q is found as %q", s, got)
		}
	}
	if len(x.Base) != len(y.Base) {
		t.Errorf("%d states; in another order %d", len(x.Base), len(y.Base))
	}
}

// P16.3: a trie of some of the words finds those alike, but for their numbers: what is found of any text is the same word, if it was kept.
func TestFewer(t *testing.T) {
	for n := range uint64(60) {
		d := dice(n)
		words := drawn(d, "abc", 6, 40)
		var some []string
		for _, s := range words {
			if d.IntN(3) > 0 {
				some = append(some, s)
			}
		}
		x, y := check(t, words...), check(t, some...)
		for range 60 {
			s := text(d, "abc", d.IntN(9))
			number, kept := trie.Find(x, s), trie.Find(y, s)
			if slices.Contains(some, s) != (kept >= 0) || kept >= 0 && some[kept] != words[number] {
				t.Errorf("Find(%q) = %d of %s; of some, %d", s, number, showWords(words), kept)
			}
			number, end := trie.Longest(x, s, 0)
			kept, keptEnd := trie.Longest(y, s, 0)
			if keptEnd > end || number >= 0 && slices.Contains(some, words[number]) && (keptEnd != end || some[kept] != words[number]) {
				t.Errorf("Longest(%q, 0) = %d, %d; of some words %d, %d", s, number, end, kept, keptEnd)
			}
		}
	}
}

// R1: the same each time that it is asked, also by several at one time.
func TestTogether(t *testing.T) {
	var all sync.WaitGroup
	var wants []api.Trie
	for n := range uint64(10) {
		wants = append(wants, built(drawn(dice(n), "abcd", 9, 300)...))
	}
	for who := range uint64(10) {
		all.Go(func() {
			for round := range uint64(10) {
				n := (who + round) % 10
				if got := built(drawn(dice(n), "abcd", 9, 300)...); !same(got, wants[n]) {
					t.Errorf("%d, asked by several: %s; want %s", n, showTrie(got), showTrie(wants[n]))
				}
				if trie.Find(wants[n], "abcdabcdabcd") != -1 {
					t.Error("a word of 12 bytes is found")
				}
			}
		})
	}
	all.Wait()
}

// share tells whether two lists have memory in common.
func share(a, b []int) bool {
	if cap(a) == 0 || cap(b) == 0 {
		return false
	}
	a, b = a[:cap(a)], b[:cap(b)]
	size := unsafe.Sizeof(a[0])
	from, to := uintptr(unsafe.Pointer(&a[0])), uintptr(unsafe.Pointer(&b[0]))
	return from < to+uintptr(len(b))*size && to < from+uintptr(len(a))*size
}

// R4: a trie is new memory, and its lists share none.
func TestTrieIsItsOwn(t *testing.T) {
	for _, words := range [][]string{nil, {""}, {"a"}, {"a", "abc"}, drawn(dice(7), "abc", 5, 60)} {
		x := check(t, words...)
		if share(x.Base, x.Check) || share(x.Base, x.Word) || share(x.Check, x.Word) {
			t.Errorf("Build(%s): lists share memory", showWords(words))
		}
		want := copied(x)
		y := built(words...)
		for _, l := range [][]int{y.Base, y.Check, y.Word} {
			for i := range l {
				l[i] = 1000
			}
		}
		if again := built(words...); !same(again, want) || !same(x, want) {
			t.Errorf("Build(%s) = %s, then %s", showWords(words), showTrie(want), showTrie(again))
		}
	}
}

// Arguments are not changed, nor is what stands behind them.
func TestWordsStay(t *testing.T) {
	words := drawn(dice(8), "abc", 6, 100)
	words[60] = words[59]
	words[80] = strings.Repeat("a", 65)
	for _, many := range []int{0, 1, 2, 59, 60, 61, 80, 81, 100} {
		given := slices.Clone(words)
		trie.Build(given[:many])
		if !slices.Equal(given, words) {
			t.Errorf("Build of %d words changes its argument", many)
		}
	}
}

// FuzzBuild takes words that are parted by one byte.
func FuzzBuild(f *testing.F) {
	f.Add("a abc", byte(' '))
	f.Add("a a", byte(' '))
	f.Add("", byte(0))
	f.Add("\x00\xff\x00\x00\xff", byte(0xff))
	f.Fuzz(func(t *testing.T, s string, by byte) {
		words := strings.Split(s[:min(len(s), 2000)], string([]byte{by}))
		longest := 0
		for _, w := range words {
			longest = max(longest, len(w))
		}
		seen := map[string]bool{}
		for _, w := range words {
			seen[w] = true
		}
		switch {
		case longest > mostToken:
			checkFails(t, words, api.ErrLong)
		case len(seen) < len(words):
			checkFails(t, words, api.ErrTwice)
			check(t, slices.Sorted(maps.Keys(seen))...)
		default:
			check(t, words...)
		}
	})
}
