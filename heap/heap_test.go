package heap_test

import (
	"math"
	"slices"
	"strings"
	"sync"
	"testing"
	"unsafe"

	"fretsaw/api"
	"fretsaw/heap"
	"fretsaw/merge"
)

const longest = 262144 // bytes of a text

// abc is the chapter's merges.
func abc() []api.Merge {
	return pairs('a', 'b', 256, 'c', 'b', 'c')
}

// engine makes one that may be.
func engine(t *testing.T, l []api.Merge, drop ...int) *heap.Engine {
	t.Helper()
	e, bad := heap.New(l, drop)
	if e == nil || bad != api.OK {
		t.Fatalf("New(%s of %d, %s) = %v, %d", show(l), len(l), show(drop), e != nil, bad)
	}
	return e
}

// checkAsks asks an engine for a text's tokens.
func checkAsks(t *testing.T, e *heap.Engine, s string, want []int) {
	t.Helper()
	if got, bad := e.Tokens(s); bad != api.OK || !slices.Equal(got, want) {
		t.Errorf("Tokens(%.80q of %d) = %s of %d, %d; want %s of %d", s, len(s), show(got), len(got), bad, show(want), len(want))
	}
}

// check asks a new engine, nothing being dropped, and merge.
func check(t *testing.T, l []api.Merge, s string, want ...int) {
	t.Helper()
	checkAsks(t, engine(t, l), s, want)
	if got, bad := merge.Tokens(l, s); bad != api.OK || !slices.Equal(got, want) {
		t.Errorf("merge.Tokens(%s, %.80q) = %s, %d; want %s", show(l), s, show(got), bad, show(want))
	}
}

// checkDropped asks a new engine.
func checkDropped(t *testing.T, l []api.Merge, drop []int, s string, want ...int) {
	t.Helper()
	checkAsks(t, engine(t, l, drop...), s, want)
	if slow := meantTokens(l, drop, s); !slices.Equal(slow, want) {
		t.Errorf("%s without %s of %.80q: meant is %s; want %s", show(l), show(drop), s, show(slow), show(want))
	}
}

func checkFails(t *testing.T, e *heap.Engine, s string, want api.Errno) {
	t.Helper()
	if got, bad := e.Tokens(s); len(got) > 0 || bad != want {
		t.Errorf("Tokens(%.80q of %d) = %s, %d; want %d alone", s, len(s), show(got), bad, want)
	}
}

// checkNoEngine asks for one that may not be: there is none, then.
func checkNoEngine(t *testing.T, l []api.Merge, drop []int, want api.Errno) {
	t.Helper()
	if e, bad := heap.New(l, drop); e != nil || bad != want {
		t.Errorf("New(%s of %d, %s of %d) = %v, %d; want %d alone", show(l), len(l), show(drop), len(drop), e != nil, bad, want)
	}
}

// checkMeant holds an engine's answer against the chapter's words, in three ways, and against what follows from them.
func checkMeant(t *testing.T, e *heap.Engine, l []api.Merge, drop []int, s string) {
	t.Helper()
	want := meantTokens(l, drop, s)
	checkAsks(t, e, s, want)
	if also := swept(l, drop, s); !slices.Equal(also, want) {
		t.Errorf("%s without %s of %q: swept is %s; meant is %s", show(l), show(drop), s, show(also), show(want))
	}
	checkFollows(t, e, l, drop, s)
}

// checkFollows looks at an answer alone: its text is the one that was given, no merge is left to be done, and none is done that is dropped.
func checkFollows(t *testing.T, e *heap.Engine, l []api.Merge, drop []int, s string) {
	t.Helper()
	got, bad := e.Tokens(s)
	if bad != api.OK {
		t.Errorf("Tokens(%.80q of %d): %d", s, len(s), bad)
	}
	var text strings.Builder
	for i, id := range got {
		text.WriteString(meantText(l, id))
		if slices.Contains(drop, id-256) {
			t.Errorf("%s without %s of %.80q: %d stands there", show(l), show(drop), s, id)
		}
		k := -1
		if i > 0 {
			k = slices.Index(l, api.Merge{Left: got[i-1], Right: id})
		}
		if k >= 0 && !slices.Contains(drop, k) {
			t.Errorf("%s without %s of %.80q: %d, %d stay", show(l), show(drop), s, got[i-1], id)
		}
	}
	if text.String() != s {
		t.Errorf("%s without %s of %.80q: the ids' text is %.80q", show(l), show(drop), s, text.String())
	}
}

// checkInstead asks merge, other merges, of bytes that the text has not, being in the place of those that are dropped.
func checkInstead(t *testing.T, e *heap.Engine, l []api.Merge, drop []int, s string) {
	t.Helper()
	want, bad := merge.Tokens(instead(l, drop), s)
	if bad != api.OK {
		t.Fatalf("merge.Tokens of %s: %d", show(instead(l, drop)), bad)
	}
	checkAsks(t, e, s, want)
}

// P14.1 and P14.2: the chapter's examples.
func TestExamples(t *testing.T) {
	check(t, abc(), "abcbc", 257, 258)
	checkDropped(t, abc(), nil, "abcbc", 257, 258)
	checkDropped(t, abc(), []int{0}, "abcbc", 'a', 258, 258)
	checkNoEngine(t, abc(), []int{1, 0}, api.ErrArg)
	checkNoEngine(t, abc(), []int{3}, api.ErrArg)
}

// P14.1: merge.Right's errors come first, whatever is dropped.
func TestWrongMerges(t *testing.T) {
	for _, x := range []struct {
		l    []api.Merge
		want api.Errno
	}{
		{pairs('a', 256), api.ErrMerge},
		{pairs(256, 'a'), api.ErrMerge},
		{pairs('a', -1), api.ErrMerge},
		{pairs(-1, 'a'), api.ErrMerge},
		{pairs('a', 'b', 'a', 'b'), api.ErrMerge},
		{pairs('a', 'b', 'b', 'c', 256, 'c', 'a', 257), api.ErrMerge},
		{pairs('a', 'b', 'c', math.MaxInt), api.ErrMerge},
		{chain('a', 65), api.ErrMerge},
		{doubled('a', 7), api.ErrMerge},
		{append(numbered(1023), numbered(1)...), api.ErrMerge},
		{numbered(1025), api.ErrLong},
		{make([]api.Merge, 1025), api.ErrLong},
		{append(pairs('a', 256), numbered(1024)...), api.ErrLong},
	} {
		if bad := merge.Right(x.l); bad != x.want {
			t.Errorf("merge.Right(%s) = %d; want %d", show(x.l), bad, x.want)
		}
		many := len(x.l)
		for _, drop := range [][]int{nil, {}, {0}, {many - 1}, {-1}, {many}, {1, 0}, {0, 0}, upTo(many), upTo(many + 1), {math.MinInt}, {math.MaxInt}} {
			checkNoEngine(t, x.l, drop, x.want)
		}
	}
	engine(t, chain('a', 64))
	engine(t, numbered(1024))
}

// P14.1: drop rises.
func TestDropRises(t *testing.T) {
	for _, l := range [][]api.Merge{numbered(4), numbered(9), doubled('a', 6), numbered(1024)} {
		for _, drop := range [][]int{{0, 0}, {3, 3}, {1, 0}, {3, 2}, {0, 1, 1}, {0, 1, 0}, {0, 2, 1}, {0, 1, 2, 3, 3}, {0, 1, 2, 3, 0}, {2, 3, 1}, {1, 1, 2}, {2, 0, 3}, {0, 3, 1, 2}} {
			checkNoEngine(t, l, drop, api.ErrArg)
		}
		for _, drop := range [][]int{{}, {0}, {3}, {0, 1}, {0, 3}, {2, 3}, {1, 2, 3}, {0, 1, 2, 3}} {
			engine(t, l, drop...)
		}
		all := upTo(len(l))
		engine(t, l, all...)
		for at := range all {
			engine(t, l, append(all[:at:at], all[at+1:]...)...)
			checkNoEngine(t, l, slices.Insert(slices.Clone(all), at, all[at]), api.ErrArg)
			other := slices.Clone(all)
			other[at] = all[(at+1)%len(all)]
			checkNoEngine(t, l, other, api.ErrArg)
		}
		slices.Reverse(all)
		checkNoEngine(t, l, all, api.ErrArg)
	}
}

// P14.1: what is dropped is a merge's number.
func TestDropWithin(t *testing.T) {
	for _, many := range []int{0, 1, 2, 3, 255, 256, 1023, 1024} {
		l := numbered(many)
		for _, k := range []int{-1, -2, -256, math.MinInt, many, many + 1, many + 256, 1 << 16, 1 << 32, math.MaxInt} {
			checkNoEngine(t, l, []int{k}, api.ErrArg)
			if k < 0 {
				checkNoEngine(t, l, append([]int{k}, upTo(many)...), api.ErrArg)
				checkNoEngine(t, l, []int{k, math.MaxInt}, api.ErrArg)
			} else {
				checkNoEngine(t, l, append(upTo(many), k), api.ErrArg)
			}
		}
		checkNoEngine(t, l, []int{-2, -1}, api.ErrArg)
		checkNoEngine(t, l, []int{many, many + 1}, api.ErrArg)
		checkNoEngine(t, l, upTo(many+1), api.ErrArg)
		checkNoEngine(t, l, append(upTo(many/2), many), api.ErrArg)
		for _, k := range []int{0, many / 2, many - 1} {
			if k < 0 || k >= many {
				continue
			}
			e, first, last := engine(t, l, k), meantText(l, 256), meantText(l, 255+many)
			checkMeant(t, e, l, []int{k}, first+"-"+last+"-"+meantText(l, 256+k))
		}
	}
	if api.MaxMerges != 1024 {
		t.Error("MaxMerges is", api.MaxMerges)
	}
}

// P14.1 and P14.2: no merges, no drop, all merges dropped: the ids of no merge are the bytes.
func TestNothingToMerge(t *testing.T) {
	for _, e := range []*heap.Engine{engine(t, nil), engine(t, []api.Merge{}), engine(t, abc(), 0, 1, 2), engine(t, numbered(1024), upTo(1024)...), engine(t, doubled('a', 6), upTo(6)...)} {
		for _, s := range []string{"", "a", "aaaa", "abcbc", "\x00", "\xff\xff", everything(), strings.Repeat(everything(), 3)} {
			checkAsks(t, e, s, idsOf(s))
		}
	}
	if e, bad := heap.New(abc(), []int{}); bad != api.OK {
		t.Error("New with an empty drop:", bad)
	} else {
		checkAsks(t, e, "abcbc", []int{257, 258})
	}
}

// P14.2: an empty text, one byte, two.
func TestShortTexts(t *testing.T) {
	e := engine(t, pairs('a', 'b', 256, 'a', 0, 255))
	checkAsks(t, e, "", nil)
	for b := range 256 {
		checkAsks(t, e, string([]byte{byte(b)}), []int{b})
		checkAsks(t, e, string([]byte{byte(b), 'b'}), swept(pairs('a', 'b'), nil, string([]byte{byte(b), 'b'})))
	}
	checkAsks(t, e, "ab", []int{256})
	checkAsks(t, e, "ba", []int{'b', 'a'})
	checkAsks(t, e, "\x00\xff", []int{258})
	checkAsks(t, e, "\xff\x00", []int{255, 0})
	checkAsks(t, e, "aba", []int{257})
}

// P14.2: how long a text may be.
func TestLongTexts(t *testing.T) {
	if 64*api.MaxInput != longest {
		t.Error("64 MaxInput is", 64*api.MaxInput)
	}
	e := engine(t, doubled('a', 6))
	s := strings.Repeat("a", longest)
	checkAsks(t, e, s, slices.Repeat([]int{256 + 5}, longest/64))
	checkAsks(t, e, s[1:], append(slices.Repeat([]int{256 + 5}, longest/64-1), 260, 259, 258, 257, 256, 'a'))
	checkAsks(t, engine(t, doubled('a', 6), 1), s, slices.Repeat([]int{256}, longest/2))
	checkAsks(t, engine(t, doubled('a', 6), 0), s, idsOf(s))
	none, some := engine(t, nil), engine(t, abc(), 0)
	for _, more := range []string{"a", "b", "\x00", "ab", s, strings.Repeat(s, 100)} {
		for _, e := range []*heap.Engine{e, none, some} {
			checkFails(t, e, s+more, api.ErrLong)
		}
	}
	checkAsks(t, none, s, idsOf(s))
	checkAsks(t, e, "aaa", []int{256, 'a'})
	for _, n := range []int{4095, 4096, 4097, 65535, 65536, 65537} {
		checkAsks(t, e, s[:n], swept(doubled('a', 6), nil, s[:n]))
	}
	turns := strings.Repeat("ab", longest/2)
	checkAsks(t, engine(t, pairs('a', 'b')), turns, slices.Repeat([]int{256}, longest/2))
	checkAsks(t, engine(t, pairs('b', 'a')), turns, append(append([]int{'a'}, slices.Repeat([]int{256}, longest/2-1)...), 'b'))
	checkAsks(t, engine(t, pairs('b', 'a', 'a', 'b'), 0), turns, slices.Repeat([]int{257}, longest/2))
}

// P14.2: a nil engine is asked nothing.
func TestNilEngine(t *testing.T) {
	var e *heap.Engine
	for _, s := range []string{"", "a", "abcbc", strings.Repeat("a", longest), strings.Repeat("a", longest+1)} {
		checkFails(t, e, s, api.ErrArg)
	}
	e, _ = heap.New(pairs('a', 256), nil)
	checkFails(t, e, "abcbc", api.ErrArg)
}

// P1: an engine that New did not make does not panic.
func TestZeroEngine(t *testing.T) {
	e := new(heap.Engine)
	for _, s := range []string{"", "a", "abcbc", strings.Repeat("a", longest+1)} {
		for range 2 {
			e.Tokens(s)
		}
	}
}

// P14.2: merges that are dropped are not done, nor those that need what they would make; all others keep their ranks and ids.
func TestDropped(t *testing.T) {
	checkDropped(t, abc(), []int{1}, "abcbc", 256, 'c', 258)
	checkDropped(t, abc(), []int{2}, "abcbc", 257, 'b', 'c')
	checkDropped(t, abc(), []int{0, 1}, "abcbc", 'a', 258, 258)
	checkDropped(t, abc(), []int{0, 2}, "abcbc", 'a', 'b', 'c', 'b', 'c')
	checkDropped(t, abc(), []int{1, 2}, "abcbc", 256, 'c', 'b', 'c')
	checkDropped(t, abc(), []int{0, 1, 2}, "abcbc", 'a', 'b', 'c', 'b', 'c')
	checkDropped(t, doubled('a', 4), []int{0}, "aaaaaaaa", idsOf("aaaaaaaa")...)
	checkDropped(t, doubled('a', 4), []int{1}, "aaaaaaaa", 256, 256, 256, 256)
	checkDropped(t, doubled('a', 4), []int{2}, "aaaaaaaa", 257, 257)
	checkDropped(t, doubled('a', 4), []int{3}, "aaaaaaaa", 258)
	checkDropped(t, pairs('a', 'b', 'b', 'c', 'c', 'd'), []int{0}, "abcd", 'a', 257, 'd') // it is another one's turn
	checkDropped(t, pairs('a', 'b', 'b', 'c', 'c', 'd'), []int{1}, "abcd", 256, 258)
	checkDropped(t, pairs('a', 'b', 'b', 'c', 'c', 'd'), []int{0, 1}, "abcd", 'a', 'b', 258)
	checkDropped(t, pairs('a', 'b', 'a', 'a', 257, 'b'), []int{0}, "aab", 258)
	checkDropped(t, pairs('a', 'a', 'a', 'b', 256, 'b'), []int{0}, "aab", 'a', 257)
	last := numbered(1024)
	checkDropped(t, last, upTo(1023), "\x7f\x4f\x40\x40", 256+1023, 0x40, 0x40)
	checkDropped(t, last, []int{1023}, "\x7f\x4f\x40\x40", 0x7f, 0x4f, 256)
	checkDropped(t, last, upTo(1024)[1:], "\x7f\x4f\x40\x40", 0x7f, 0x4f, 256)
}

// P14.2: the least rank is merged first, wherever it stands.
func TestLeastRankFirst(t *testing.T) {
	check(t, pairs('a', 'b', 'b', 'c'), "abc", 256, 'c')
	check(t, pairs('b', 'c', 'a', 'b'), "abc", 'a', 256)
	check(t, pairs('b', 'c', 'a', 'b'), "abcab", 'a', 256, 257)
	check(t, pairs('c', 'd', 'b', 'c', 'a', 'b'), "abcd", 258, 256)
	check(t, pairs('b', 'c', 'c', 'd', 'a', 'b'), "abcd", 'a', 256, 'd')
	check(t, pairs('d', 'e', 'c', 'd', 'b', 'c', 'a', 'b'), "abcde", 'a', 258, 256)
	check(t, pairs('b', 'a', 'a', 'b'), "baba", 256, 256)
	check(t, pairs('a', 'b', 'b', 'a'), "baba", 'b', 256, 'a')
	for at := range 20 { // one rank is less than all others, and stands among many of them
		s := strings.Repeat("ab", at) + "bc" + strings.Repeat("ab", 20-at)
		for _, l := range [][]api.Merge{pairs('b', 'b', 'a', 'b'), pairs('b', 'c', 'b', 'a', 'a', 'b'), pairs('b', 'b', 'b', 'a', 256, 'c')} {
			checkMeant(t, engine(t, l), l, nil, s)
			checkMeant(t, engine(t, l, 0), l, []int{0}, s)
			checkMeant(t, engine(t, l, 1), l, []int{1}, s)
		}
	}
	var falls []int // ranks that fall along the text
	for b := 'z'; b > 'a'; b-- {
		falls = append(falls, int(b)-1, int(b))
	}
	check(t, pairs(falls...), "abcdefghijklmnopqrstuvwxyz", swept(pairs(falls...), nil, "abcdefghijklmnopqrstuvwxyz")...)
}

// P14.2: of the same rank the first place comes first, so that a merge that overlaps itself leaves the last one alone.
func TestFirstPlaceFirst(t *testing.T) {
	twice := pairs('a', 'a')
	check(t, twice, "aaa", 256, 'a')
	check(t, twice, "aaaa", 256, 256)
	for n := range 80 {
		want := slices.Repeat([]int{256}, n/2)
		if n%2 > 0 {
			want = append(want, 'a')
		}
		check(t, twice, strings.Repeat("a", n), want...)
		check(t, twice, "b"+strings.Repeat("a", n)+"b", slices.Concat([]int{'b'}, want, []int{'b'})...)
	}
	check(t, pairs('a', 'a', 256, 256), "aaaaaaa", 257, 256, 'a')
	check(t, pairs('a', 'a', 256, 'a'), "aaaaa", 256, 257)
	check(t, pairs('a', 'a', 'a', 256), "aaaaa", 256, 256, 'a')
	check(t, pairs('a', 'a', 'a', 'b'), "aaab", 256, 257)
	check(t, pairs('a', 'a', 256, 'b'), "aaab", 256, 'a', 'b')
	check(t, pairs('a', 'b', 256, 256), "abababab", 257, 257)
	check(t, pairs('a', 'b', 256, 256), "ababab", 257, 256)
	checkDropped(t, pairs('x', 'y', 'a', 'a'), []int{0}, "aaa", 257, 'a')
	checkDropped(t, pairs('a', 'b', 'a', 'a', 257, 'b'), []int{0}, "aaaab", 257, 258)
}

// P14.2: a pair that is not there any more when its turn comes: one of the two, or both, have become parts of others.
func TestPairsThatAreGone(t *testing.T) {
	check(t, pairs('b', 'c', 'a', 'b', 'c', 'd'), "abcd", 'a', 256, 'd')
	check(t, pairs('a', 'b', 'c', 'd', 'b', 'c'), "abcd", 256, 257)
	check(t, pairs('a', 'b', 'b', 'c', 'c', 'd'), "abcd", 256, 258)
	check(t, pairs('a', 'b', 'c', 'a', 'c', 256), "cab", 258)                   // ca has become c, ab
	check(t, pairs('b', 'c', 'a', 'b', 'a', 256), "abcab", 258, 257)            // ab has become a, bc
	check(t, pairs('a', 'a', 'b', 'b', 'a', 'b'), "aabb", 256, 257)             // both are parts of others
	check(t, pairs('a', 'a', 'b', 'b', 'a', 'b'), "aaabbb", 256, 'a', 257, 'b') // b is
	check(t, pairs('a', 'a', 'b', 'b', 'a', 'b'), "aaab", 256, 258)             // a stays
	check(t, pairs('c', 'c', 'b', 'c', 'b', 256), "bcc", 258)                   // bc has become b, cc
	check(t, pairs('b', 'b', 'b', 'c', 256, 'c'), "bbc", 258)                   // bc has become bb, c
	check(t, pairs('b', 'c', 256, 'd', 'c', 'd'), "bcd", 257)
	check(t, pairs('a', 'b', 256, 'a', 'b', 'a'), "abaabba", 257, 256, 258)
}

// P14.2: what a merge makes is merged on, with what stands ahead of it and behind it.
func TestMadePossible(t *testing.T) {
	check(t, pairs('b', 'c', 'a', 256), "abc", 257)
	check(t, pairs('b', 'c', 256, 'd'), "abcd", 'a', 257)
	check(t, pairs('b', 'c', 'a', 256, 257, 'd'), "abcd", 258)
	check(t, pairs('c', 'd', 'b', 256, 'a', 257), "abcd", 258)
	check(t, pairs('a', 'b', 'c', 'd', 256, 257), "abcd", 258)
	check(t, pairs('c', 'd', 'a', 'b', 257, 256), "abcdab", 258, 257)
	check(t, pairs('c', 'd', 'a', 'b', 'x', 'y', 257, 256), "abcd", 259)
	check(t, pairs('b', 'c', 256, 256, 'a', 257), "abcbcbc", 258, 256)
	check(t, pairs('b', 'c', 'a', 256, 256, 256), "abcbc", 257, 256)
	for size := 2; size <= 64; size += 3 {
		for n := range 3 * size {
			l := chain('a', size)
			check(t, l, strings.Repeat("a", n), swept(l, nil, strings.Repeat("a", n))...)
		}
	}
	var left, right []int // y is taken from behind, x from ahead, till all is one id
	for i := range 60 {
		left, right = append(left, 255+i, 'y'), append(right, 'x', 255+i)
	}
	left[0], right[1] = 'b', 'b'
	check(t, pairs(left...), "b"+strings.Repeat("y", 60), 256+59)
	check(t, pairs(right...), strings.Repeat("x", 60)+"b", 256+59)
	checkDropped(t, pairs(left...), []int{40}, "b"+strings.Repeat("y", 60), append([]int{256 + 39}, slices.Repeat([]int{'y'}, 20)...)...)
	checkDropped(t, pairs(right...), []int{40}, strings.Repeat("x", 60)+"b", append(slices.Repeat([]int{'x'}, 20), 256+39)...)
}

// P14.2 and P14.5: every two merges of two bytes and of what is made, each of them dropped or not, at every short text.
func TestEachSmall(t *testing.T) {
	ids, tried := []int{'a', 'b', 256, 257}, 0
	texts := []string{""}
	for from := 0; len(texts) < 1<<8-1; from++ {
		texts = append(texts, texts[from]+"a", texts[from]+"b")
	}
	for n := range 1 << 8 {
		l := pairs(ids[n&3], ids[n>>2&3], ids[n>>4&3], ids[n>>6&3])
		if bad := merge.Right(l); bad != api.OK {
			checkNoEngine(t, l, []int{-1}, bad)
			continue
		}
		for _, drop := range [][]int{nil, {0}, {1}, {0, 1}} {
			e := engine(t, l, drop...)
			for _, s := range texts {
				checkMeant(t, e, l, drop, s)
				checkInstead(t, e, l, drop, s)
			}
		}
		tried++
	}
	if tried != 32 {
		t.Error("tried:", tried)
	}
}

// P14.2 and P14.5: many merges, drops and texts, against the chapter's words and against merge.
func TestMany(t *testing.T) {
	dropped := 0
	for i := range 4000 {
		d := &dice{n: uint64(i)}
		bytes := []string{"a", "ab", "abc", "a\x00\x7f", "abcdefgh"}[d.below(5)]
		l := d.merges(bytes, 12)
		drop := d.drop(len(l))
		dropped += len(drop)
		e := engine(t, l, drop...)
		for range 4 {
			s := d.text(bytes, 30)
			checkMeant(t, e, l, drop, s)
			checkInstead(t, e, l, drop, s)
		}
	}
	if dropped < 3000 {
		t.Error("dropped:", dropped)
	}
	for i := range 24 {
		d := &dice{n: uint64(i) + 1<<32}
		l := d.merges("abc\x00", 1024)
		drop := d.drop(len(l))
		e := engine(t, l, drop...)
		for range 4 {
			checkMeant(t, e, l, drop, d.text("abc\x00", 200))
		}
		checkInstead(t, e, l, drop, d.long("abc\x00", 4096))
	}
}

// P14.5: with nothing dropped, tokens are merge's, where that tells them; it tells none of longer texts.
func TestAsMerge(t *testing.T) {
	for i := range 300 {
		d := &dice{n: uint64(i) + 1<<33}
		bytes := []string{"ab", "abc", "a\x00\xff", everything()}[d.below(4)]
		l := d.merges(bytes, 300)
		e := engine(t, l)
		for _, s := range []string{d.text(bytes, 4096), d.long(bytes, 4096), d.long(bytes, 4097)} {
			want, bad := merge.Tokens(l, s)
			if bad == api.OK {
				checkAsks(t, e, s, want)
			}
			if (bad == api.ErrLong) != (len(s) > 4096) {
				t.Errorf("merge.Tokens of %d bytes: %d", len(s), bad)
			}
		}
	}
}

// P14.2: long texts, of many merges.
func TestManyLong(t *testing.T) {
	for i := range 8 {
		d := &dice{n: uint64(i) + 1<<34}
		l := d.merges("abcd", []int{10, 60, 300, 1024}[i%4])
		drop := d.drop(len(l))
		s := strings.Repeat(d.long("abcd", 5000+d.below(longest)), 60)[:longest-i]
		e := engine(t, l, drop...)
		checkAsks(t, e, s, swept(l, drop, s))
	}
}

// P14.3: Cost.
func TestCost(t *testing.T) {
	for n, want := range map[int]int{
		0: 1, 1: 5, 2: 9, 3: 13, 100: 401, 4096: 16385, 4097: 16389, 65536: 262145, longest - 1: 1048573, longest: 1048577,
		-1: 0, -2: 0, -longest: 0, math.MinInt: 0, longest + 1: 0, longest + 2: 0, 2 * longest: 0, 1 << 32: 0, 1 << 61: 0, 1 << 62: 0, math.MaxInt: 0,
	} {
		if got := heap.Cost(n); got != want {
			t.Errorf("Cost(%d) = %d; want %d", n, got, want)
		}
	}
	for n := range longest + 1 {
		if got := heap.Cost(n); got != n+n+n+n+1 {
			t.Fatalf("Cost(%d) = %d", n, got)
		}
	}
}

// checkSorted asks for one list, twice: what is given stays.
func checkSorted(t *testing.T, l []int) {
	t.Helper()
	given, want := slices.Clone(l), slices.Clone(l)
	slices.Sort(want)
	for range 2 {
		got := heap.Sorted(l)
		if !slices.Equal(got, want) || !slices.Equal(l, given) || share(got, l) {
			t.Errorf("Sorted(%s) = %s; want %s; given is now %s", show(given), show(got), show(want), show(l))
		}
	}
}

// P14.4: Sorted.
func TestSorted(t *testing.T) {
	const least, most = math.MinInt, math.MaxInt
	for _, l := range [][]int{
		nil, {}, {0}, {-1}, {least}, {most}, {3, 1, 2, 1}, {1, 2}, {2, 1}, {1, 1}, {1, 1, 1, 1, 1}, {2, 1, 1}, {1, 2, 1}, {1, 1, 2},
		{most, least}, {least, most}, {most, 0, least}, {0, most, -1, least, 1}, {least, least, most, most}, {most, most, least, least, 0}, {least + 1, least, most - 1, most},
		{1 << 32, 1, 1 << 33, 2, -1 << 32}, {5, 4, 3, 2, 1, 0, -1, -2, -3, -4, -5},
	} {
		checkSorted(t, l)
	}
	for size, lists := range []int{1, 1, 4, 27, 256, 3125, 46656} { // every order, also with the same ones
		l := make([]int, size)
		for n := range lists {
			for i := range l {
				l[i] = n % size
				n /= size
			}
			checkSorted(t, l)
		}
	}
	for i := range 1000 {
		d := &dice{n: uint64(i) + 1<<35}
		l := make([]int, d.below(100))
		span := []int{2, 10, 1000, math.MaxInt}[d.below(4)]
		for at := range l {
			l[at] = d.below(span) - span/2
		}
		checkSorted(t, l)
	}
	for _, size := range []int{1023, 1024, 1025, 200000} {
		d := &dice{n: 1 << 36}
		l := upTo(size)
		checkSorted(t, l)
		slices.Reverse(l)
		checkSorted(t, l)
		checkSorted(t, make([]int, size))
		for at := range l {
			l[at] = d.below(size)
		}
		checkSorted(t, l)
	}
}

// P14.5: an engine that is asked again answers as a new one, whatever was asked before: longer texts, shorter ones, too long ones.
func TestAskedAgain(t *testing.T) {
	l := append(abc(), pairs('a', 'a', 259, 'a', 'c', 'c')...)
	for _, drop := range [][]int{nil, {0}, {1, 3}} {
		e := engine(t, l, drop...)
		var texts []string
		for i := range 40 {
			d := &dice{n: uint64(i) + 1<<37}
			texts = append(texts, d.text("abc", 60), d.text("aaabc", 1000))
		}
		texts = append(texts, "", "a", strings.Repeat("abcaac", 5000), "", strings.Repeat("a", longest), "abcbc", strings.Repeat("a", longest+1), "abcbc", "cbcba")
		for range 3 {
			for _, s := range texts {
				if len(s) > longest {
					checkFails(t, e, s, api.ErrLong)
					continue
				}
				checkAsks(t, e, s, swept(l, drop, s))
			}
		}
	}
}

// P14.5: several ask one engine at one time, and are answered as if each were alone.
func TestTogether(t *testing.T) {
	l := append(abc(), pairs('a', 'a', 259, 'a', 'c', 'c')...)
	drop := []int{1}
	e, other := engine(t, l, drop...), engine(t, l)
	long := strings.Repeat("abcaacbcaaab", 3000)
	wantLong, wantOther := swept(l, drop, long), swept(l, nil, long)
	var group sync.WaitGroup
	for n := range 16 {
		group.Go(func() {
			for i := range 60 {
				d := &dice{n: uint64(n*1000+i) + 1<<38}
				s := d.text("abc", 300)
				checkAsks(t, e, s, swept(l, drop, s))
				checkAsks(t, other, s, swept(l, nil, s))
				if i%20 == n {
					checkAsks(t, e, long, wantLong)
					checkAsks(t, other, long, wantOther)
				}
				checkMeant(t, engine(t, l, 0, 2), l, []int{0, 2}, s)
				checkNoEngine(t, l, []int{6}, api.ErrArg)
				checkSorted(t, idsOf(s))
			}
			checkFails(t, e, strings.Repeat("a", longest+1), api.ErrLong)
		})
	}
	group.Wait()
}

// share tells whether two lists lie in the same memory, also behind their ends.
func share[E any](a, b []E) bool {
	a, b = a[:cap(a)], b[:cap(b)]
	if len(a) == 0 || len(b) == 0 {
		return false
	}
	size := unsafe.Sizeof(a[0])
	from, to := uintptr(unsafe.Pointer(&a[0])), uintptr(unsafe.Pointer(&b[0]))
	return from < to+uintptr(len(b))*size && to < from+uintptr(len(a))*size
}

// R4: what is answered is new memory: no later answer changes it, and what is done to it changes no later answer.
func TestAnswersAreTheirOwn(t *testing.T) {
	e := engine(t, abc())
	texts := []string{"abcbc", "cccccc", "abababababababcbc", "a", "bc", strings.Repeat("abcbc", 1000)}
	var answers [][]int
	for _, s := range slices.Concat(texts, texts) {
		got, _ := e.Tokens(s)
		for _, earlier := range answers {
			if share(got, earlier) {
				t.Errorf("Tokens of %.80q share their memory", s)
			}
		}
		answers = append(answers, got)
	}
	for i, got := range answers {
		s := texts[i%len(texts)]
		if !slices.Equal(got, swept(abc(), nil, s)) {
			t.Errorf("Tokens of %.80q were changed: %s", s, show(got))
		}
		for at := range got[:cap(got)] {
			got[:cap(got)][at] = -7
		}
		checkAsks(t, e, s, swept(abc(), nil, s))
	}
	l := []int{3, 1, 2}
	if a, b := heap.Sorted(l), heap.Sorted(l); share(a, b) {
		t.Error("Sorted's answers share their memory")
	}
}

// R4: what is given to New is not changed, and not kept.
func TestGivenStays(t *testing.T) {
	room := append(abc(), pairs('x', 'x', 'y', 'y')...)
	numbers := []int{0, -5, 7}
	l, drop := room[:3], numbers[:1]
	e := engine(t, l, drop...)
	checkAsks(t, e, "abcbc", []int{'a', 258, 258})
	if !slices.Equal(room, append(abc(), pairs('x', 'x', 'y', 'y')...)) || !slices.Equal(numbers, []int{0, -5, 7}) {
		t.Error("what was given was changed:", room, numbers)
	}
	for i := range room {
		room[i] = api.Merge{Left: 'c', Right: 'b'}
	}
	for i := range numbers {
		numbers[i] = 2
	}
	checkAsks(t, e, "abcbc", []int{'a', 258, 258})
	given := slices.Repeat([]int{4, 3}, 20)
	heap.Sorted(given[:30])
	if !slices.Equal(given, slices.Repeat([]int{4, 3}, 20)) {
		t.Error("Sorted changed what it was given:", given)
	}
}

// FuzzTokens takes two bytes a merge: each is a byte's id, or, from 128 on, a merge's; a bit a merge tells whether it is dropped.
func FuzzTokens(f *testing.F) {
	f.Add("ab\x80cbc", uint64(0), "abcbc")
	f.Add("ab\x80cbc", uint64(1), "abcbc")
	f.Add("aa\x80\x80\x81\x81", uint64(4), "aaaaaaaaaaaaaaa")
	f.Add("a\x81", uint64(1), "a")
	f.Fuzz(func(t *testing.T, parts string, bits uint64, s string) {
		id := func(b byte) int { return int(b) + int(b)>>7*128 }
		var l []api.Merge
		var drop []int
		for i := 1; i < min(len(parts), 80); i += 2 {
			if bits>>(i/2)&1 > 0 {
				drop = append(drop, len(l))
			}
			l = append(l, api.Merge{Left: id(parts[i-1]), Right: id(parts[i])})
		}
		if bad := merge.Right(l); bad != api.OK {
			checkNoEngine(t, l, drop, bad)
			return
		}
		e, s := engine(t, l, drop...), s[:min(len(s), 200)]
		checkMeant(t, e, l, drop, s)
		checkMeant(t, e, l, drop, s[len(s)/2:])
	})
}

// FuzzSorted takes a number of each byte, or, if big, of each eight.
func FuzzSorted(f *testing.F) {
	f.Add("cabab", false)
	f.Add("abcdefghhgfedcba", true)
	f.Fuzz(func(t *testing.T, s string, big bool) {
		l := idsOf(s)
		if big {
			l = nil
			for part := range slices.Chunk([]byte(s), 8) {
				n := 0
				for _, b := range part {
					n = n<<8 | int(b)
				}
				l = append(l, n)
			}
		}
		checkSorted(t, l)
	})
}
