package merge_test

import (
	"math"
	"slices"
	"strings"
	"sync"
	"testing"
	"unsafe"

	"fretsaw/api"
	"fretsaw/merge"
)

// abc is the chapter's merges.
func abc() []api.Merge {
	return pairs('a', 'b', 256, 'c', 'b', 'c')
}

// check asks for one list, merged.
func check(t *testing.T, l []api.Merge, ids, want []int) {
	t.Helper()
	if got, e := merge.Apply(l, ids); e != api.OK || !slices.Equal(got, want) {
		t.Errorf("Apply(%s, %s) = %s, %d; want %s", show(l), show(ids), show(got), e, show(want))
	}
}

// checkText asks for one text's tokens, and for those of its bytes.
func checkText(t *testing.T, l []api.Merge, s string, want ...int) {
	t.Helper()
	if got, e := merge.Tokens(l, s); e != api.OK || !slices.Equal(got, want) {
		t.Errorf("Tokens(%s, %.80q) = %s, %d; want %s", show(l), s, show(got), e, show(want))
	}
	check(t, l, idsOf(s), want)
}

func checkApplyFails(t *testing.T, l []api.Merge, ids []int, want api.Errno) {
	t.Helper()
	if got, e := merge.Apply(l, ids); len(got) > 0 || e != want {
		t.Errorf("Apply(%s, %s of %d) = %s, %d; want %d alone", show(l), show(ids), len(ids), show(got), e, want)
	}
}

func checkTokensFails(t *testing.T, l []api.Merge, s string, want api.Errno) {
	t.Helper()
	if got, e := merge.Tokens(l, s); len(got) > 0 || e != want {
		t.Errorf("Tokens(%s, %.80q of %d) = %s, %d; want %d alone", show(l), s, len(s), show(got), e, want)
	}
}

// checkWrong asks all about merges that may not be: nothing stands beside the error, and ids and texts are not looked at.
func checkWrong(t *testing.T, l []api.Merge, want api.Errno) {
	t.Helper()
	if e := merge.Right(l); e != want || e != meantRight(l) {
		t.Errorf("Right(%s of %d) = %d; want %d", show(l), len(l), e, want)
	}
	if got, e := merge.Texts(l); len(got) > 0 || e != want {
		t.Errorf("Texts(%s of %d) = %.80q, %d; want %d alone", show(l), len(l), got, e, want)
	}
	for _, ids := range [][]int{nil, {'a', 'b'}, {-1}, {2000}, tooMany, tooManyWrong} {
		checkApplyFails(t, l, ids, want)
	}
	for _, s := range []string{"", "ab", tooLong} {
		checkTokensFails(t, l, s, want)
	}
}

var (
	tooMany      = make([]int, 4097)
	tooManyWrong = slices.Repeat([]int{-1}, 4097)
	tooLong      = strings.Repeat("a", 4097)
)

// checkRight asks about merges that may be: that they may, and each id's text.
func checkRight(t *testing.T, l []api.Merge) {
	t.Helper()
	if e := merge.Right(l); e != api.OK || e != meantRight(l) {
		t.Errorf("Right(%s of %d) = %d", show(l), len(l), e)
		return
	}
	got, e := merge.Texts(l)
	if e != api.OK || len(got) != 256+len(l) {
		t.Errorf("Texts(%s of %d) = %d of them, %d", show(l), len(l), len(got), e)
		return
	}
	for id, text := range got {
		if want := meantText(l, id); text != want {
			t.Errorf("Texts(%s of %d): that of %d is %q; want %q", show(l), len(l), id, text, want)
		}
	}
}

// checkMeant asks for a list, merged, by the chapter's words; and P13.3.
func checkMeant(t *testing.T, l []api.Merge, ids []int) {
	t.Helper()
	got, e := merge.Apply(l, ids)
	if want := meantApply(l, ids); e != api.OK || !slices.Equal(got, want) || !slices.Equal(swept(l, ids), want) {
		t.Errorf("Apply(%s, %s) = %s, %d; want %s", show(l), show(ids), show(got), e, show(want))
	}
	checkFollows(t, l, ids, got)
}

// checkFollows holds P13.3 against what was answered.
func checkFollows(t *testing.T, l []api.Merge, ids, got []int) {
	t.Helper()
	if before, after := meantAll(l, ids), meantAll(l, got); before != after {
		t.Errorf("Apply(%s, %s): the text was %.80q, and is %.80q", show(l), show(ids), before, after)
	}
	for i := range got {
		if i > 0 && slices.Contains(l, api.Merge{Left: got[i-1], Right: got[i]}) {
			t.Errorf("Apply(%s, %s): %d, %d stay", show(l), show(ids), got[i-1], got[i])
		}
	}
	if len(got) > len(ids) {
		t.Errorf("Apply(%s, %s): %d ids became %d", show(l), show(ids), len(ids), len(got))
	}
	check(t, l, got, got)
}

// P13.1 and P13.2: the chapter's examples.
func TestExamples(t *testing.T) {
	checkText(t, abc(), "abcbc", 257, 258)
	checkText(t, abc(), "aab", 'a', 256)
	checkText(t, abc(), "")
	checkRight(t, abc())
	if texts, _ := merge.Texts(abc()); !slices.Equal(texts[256:], []string{"ab", "abc", "bc"}) {
		t.Errorf("Texts are %q", texts[256:])
	}
	checkWrong(t, pairs('a', 257), api.ErrMerge)
	checkWrong(t, pairs('a', 'b', 'a', 'b'), api.ErrMerge)
}

// P13.1: how many merges there may be; too many are ErrLong, also where one of them may not be.
func TestHowMany(t *testing.T) {
	if api.MaxMerges != 1024 {
		t.Error("MaxMerges is", api.MaxMerges)
	}
	for _, many := range []int{0, 1, 2, 255, 256, 257, 1023, 1024} {
		checkRight(t, numbered(many))
	}
	checkText(t, numbered(1024), "\x7f\x4f-\x7f\x50-\x40\x40", 256+1023, '-', 0x7f, 0x50, '-', 256)
	checkWrong(t, append(numbered(1023), api.Merge{Left: -1}), api.ErrMerge)
	checkWrong(t, append(numbered(1023), numbered(1)...), api.ErrMerge)
	for _, many := range []int{1025, 1026, 2048, 70000} {
		l := numbered(many)
		checkWrong(t, l, api.ErrLong)
		for _, at := range []int{0, 500, 1023, 1024, many - 1} {
			for _, bad := range []api.Merge{{Left: -1}, {Right: 256 + many}, {Left: at & 255, Right: 256 + at}} {
				checkWrong(t, slices.Replace(slices.Clone(l), at, at+1, bad), api.ErrLong)
			}
		}
		checkWrong(t, make([]api.Merge, many), api.ErrLong)
	}
	checkWrong(t, append(doubled('a', 7), numbered(1018)...), api.ErrLong)
	checkWrong(t, append(doubled('a', 7), numbered(1017)...), api.ErrMerge)
}

// P13.1: which ids a merge may take: those that are there ahead of it.
func TestWhichIds(t *testing.T) {
	for _, many := range []int{0, 1, 2, 300, 1023} {
		ahead := numbered(many)
		with := func(left, right int) []api.Merge { return append(slices.Clone(ahead), pairs(left, right)...) }
		for _, bad := range []int{-1, -2, -256, math.MinInt, 256 + many, 257 + many, 1 << 16, 1 << 32, 1<<32 + 'a', math.MaxInt} {
			checkWrong(t, with(bad, 200), api.ErrMerge)
			checkWrong(t, with(200, bad), api.ErrMerge)
			checkWrong(t, with(bad, bad), api.ErrMerge)
			checkWrong(t, append(with(bad, 200), pairs(201, 202)...), []api.Errno{api.ErrMerge, api.ErrLong}[many/1023])
		}
		for _, id := range []int{0, 1, 'a', 254, 255, 255 + many} {
			checkRight(t, with(id, 200))
			checkRight(t, with(200, id))
			checkText(t, with(id, 200), meantText(ahead, id)+"\xc8", 256+many)
			checkText(t, with(200, id), "\xc8"+meantText(ahead, id), 256+many)
		}
		checkRight(t, with(255+many, 255+many))
	}
	checkRight(t, pairs(0, 0))
	checkRight(t, pairs(255, 255))
	checkRight(t, pairs(0, 255, 255, 0, 257, 256))
	checkText(t, pairs(0, 255, 255, 0, 257, 256), "\xff\x00\x00\xff\x00\xff", 258, 256)
	checkWrong(t, pairs(256, 'a', 'a', 'b'), api.ErrMerge) // the one that makes it stands at the same place
	checkWrong(t, pairs('a', 'b', 'c', 258, 'd', 'e'), api.ErrMerge)
}

// P13.1: how many bytes a text may have.
func TestTextSizes(t *testing.T) {
	if api.MaxToken != 64 {
		t.Error("MaxToken is", api.MaxToken)
	}
	for _, b := range []int{'a', 0, 255} {
		for size := 2; size <= 64; size++ {
			checkRight(t, chain(b, size))
		}
		long := chain(b, 64)
		checkRight(t, append(slices.Clone(long), pairs('x', 'y')...))
		checkWrong(t, chain(b, 65), api.ErrMerge)
		checkWrong(t, chain(b, 66), api.ErrMerge)
		checkWrong(t, append(chain(b, 65), pairs('x', 'y')...), api.ErrMerge)
		for id := range 256 + len(long) {
			other := append(slices.Clone(long), pairs(256+len(long)-1, id)...) // 64 bytes, and one more at least
			checkWrong(t, other, api.ErrMerge)
			other[len(long)] = api.Merge{Left: id, Right: 256 + len(long) - 1}
			checkWrong(t, other, api.ErrMerge)
		}
		checkRight(t, doubled(b, 6))
		checkWrong(t, doubled(b, 7), api.ErrMerge)
		checkWrong(t, doubled(b, 300), api.ErrMerge) // its length has no room in an int
	}
	both := append(chain('a', 33), pairs('b', 'c')...) // of 33 bytes the id 256 + 31, of 2 bytes 256 + 32
	checkRight(t, append(slices.Clone(both), pairs(256+30, 256+30)...))
	checkWrong(t, append(slices.Clone(both), pairs(256+30, 256+31)...), api.ErrMerge)
	checkWrong(t, append(slices.Clone(both), pairs(256+31, 256+31)...), api.ErrMerge)
	checkRight(t, append(slices.Clone(both), pairs(256+32, 256+31, 256+33, 256+27)...)) // 35 bytes, and 29 more
	checkWrong(t, append(slices.Clone(both), pairs(256+32, 256+31, 256+33, 256+28)...), api.ErrMerge)
}

// P13.1: no two merges have the same text, by the same parts or by others; each may have one that several ids write.
func TestTwice(t *testing.T) {
	for _, many := range []int{2, 3, 10, 1024} {
		for i := 1; i < many; i += max(1, many/20) {
			for j := 0; j < i; j += max(1, many/20) {
				l := numbered(many)
				l[i] = l[j]
				checkWrong(t, l, api.ErrMerge)
			}
		}
	}
	checkWrong(t, append(abc(), pairs('a', 258)...), api.ErrMerge)             // a, bc: as ab, c
	checkRight(t, append(abc(), pairs('c', 258)...))                           // cbc
	checkRight(t, append(abc(), pairs(258, 'a')...))                           // bca
	checkRight(t, pairs('a', 'b', 'b', 'c', 256, 'c'))                         // abc is a, bc, too, but no merge's
	checkRight(t, pairs('a', 'b', 'b', 'a', 256, 256, 257, 257))               // abab, baba
	checkWrong(t, pairs('a', 'a', 256, 'a', 'a', 256), api.ErrMerge)           // aaa
	checkWrong(t, pairs('a', 'a', 256, 'a', 256, 256, 257, 'a'), api.ErrMerge) // aaaa
	checkRight(t, pairs('a', 'a', 256, 'a', 256, 256, 258, 'a'))               // aaaaa
	checkWrong(t, append(doubled(0, 3), pairs(257, 257)...), api.ErrMerge)     // eight bytes 0
	checkWrong(t, append(doubled(0, 3), pairs(0, 0)...), api.ErrMerge)         // two bytes 0
	checkRight(t, append(doubled(0, 3), pairs(0, 256)...))                     // three bytes 0
	checkRight(t, append(doubled(0, 3), pairs(0, 1, 1, 0, 259, 256)...))       // no byte is left out
	checkRight(t, pairs('a', 'b', 'b', 'a', 'A', 'b'))
	checkRight(t, pairs(0xc3, 0xa9, 0xa9, 0xc3, 0xff, 0xfe, 0xfe, 0xff)) // bytes that are no characters are different ones
	long := append(chain('a', 64), api.Merge{Left: 'a', Right: 256 + 61})
	checkWrong(t, long, api.ErrMerge)
	long[63] = api.Merge{Left: 256 + 30, Right: 256 + 30}
	checkWrong(t, long, api.ErrMerge)
	long[63] = api.Merge{Left: 'b', Right: 256 + 61}
	checkRight(t, long)
}

// P13.1: the texts of no merges are the bytes, each alone.
func TestNoMerges(t *testing.T) {
	checkRight(t, nil)
	checkRight(t, []api.Merge{})
	texts, e := merge.Texts(nil)
	if e != api.OK || strings.Join(texts, "") != everything() || texts[0] != "\x00" || texts[255] != "\xff" {
		t.Errorf("Texts(nil) = %q, %d", texts, e)
	}
	checkText(t, nil, everything(), idsOf(everything())...)
	checkText(t, []api.Merge{}, "aab", 'a', 'a', 'b')
}

// P13.2: how many ids and bytes there may be. They are looked at behind the merges, and ahead of what they are.
func TestLongLists(t *testing.T) {
	if api.MaxInput != 4096 {
		t.Error("MaxInput is", api.MaxInput)
	}
	s := strings.Repeat("a", 4096)
	for _, l := range [][]api.Merge{nil, abc(), doubled('a', 6), numbered(1024)} {
		for _, n := range []int{4095, 4096} {
			checkText(t, l, s[:n], swept(l, idsOf(s[:n]))...)
			checkApplyFails(t, l, append(idsOf(s[1:n]), 256+len(l)), api.ErrArg)
			checkApplyFails(t, l, append([]int{-1}, idsOf(s[1:n])...), api.ErrArg)
		}
		for _, n := range []int{4097, 4098, 8192, 1 << 20} {
			checkTokensFails(t, l, strings.Repeat("a", n), api.ErrLong)
			for _, id := range []int{0, 'a', 255 + len(l), 256 + len(l), -1} {
				checkApplyFails(t, l, slices.Repeat([]int{id}, n), api.ErrLong)
				checkApplyFails(t, l, append(make([]int, n-1), id), api.ErrLong)
			}
		}
	}
	checkTokensFails(t, nil, strings.Repeat("a", 1<<26), api.ErrLong)
	checkText(t, doubled('a', 6), s, slices.Repeat([]int{256 + 5}, 64)...)
	checkText(t, doubled('a', 6), s[1:], append(slices.Repeat([]int{256 + 5}, 63), 260, 259, 258, 257, 256, 'a')...)
	checkText(t, pairs('a', 'b'), strings.Repeat("ab", 2048), slices.Repeat([]int{256}, 2048)...)
}

// P13.2: which ids may be merged.
func TestWrongIds(t *testing.T) {
	for _, l := range [][]api.Merge{nil, abc(), numbered(1024)} {
		top := 255 + len(l)
		for _, bad := range []int{-1, -2, -256, math.MinInt, top + 1, top + 2, 1 << 16, 1 << 32, 1<<32 + 'a', math.MaxInt} {
			checkApplyFails(t, l, []int{bad}, api.ErrArg)
			for at := range 6 {
				checkApplyFails(t, l, slices.Insert(idsOf("abcbc"), at, bad), api.ErrArg)
			}
		}
		check(t, l, []int{top}, []int{top})
		check(t, l, []int{0, top, 255}, []int{0, top, 255})
		check(t, l, nil, nil)
		check(t, l, []int{}, nil)
	}
	checkApplyFails(t, nil, []int{256}, api.ErrArg)
	checkApplyFails(t, pairs('a', 'b'), []int{257}, api.ErrArg)
	check(t, pairs('a', 'b'), []int{256, 255, 0, 256}, []int{256, 255, 0, 256})
}

// P13.2: the least rank is merged first, wherever it stands.
func TestLeastRankFirst(t *testing.T) {
	checkText(t, pairs('a', 'b', 'b', 'c'), "abc", 256, 'c')
	checkText(t, pairs('b', 'c', 'a', 'b'), "abc", 'a', 256)
	checkText(t, pairs('b', 'c', 'a', 'b'), "abcab", 'a', 256, 257)
	checkText(t, pairs('c', 'd', 'b', 'c', 'a', 'b'), "abcd", 258, 256)
	checkText(t, pairs('b', 'c', 'c', 'd', 'a', 'b'), "abcd", 'a', 256, 'd')
	checkText(t, pairs('a', 'b', 'b', 'c', 'c', 'd'), "abcd", 256, 258)
	checkText(t, pairs('d', 'e', 'c', 'd', 'b', 'c', 'a', 'b'), "abcde", 'a', 258, 256)
	checkText(t, pairs('a', 'b', 'b', 'a'), "baba", 'b', 256, 'a')
	checkText(t, pairs('b', 'a', 'a', 'b'), "baba", 256, 256)
	for at := range 20 { // one rank is less than all others, and stands among many of them
		s := strings.Repeat("ab", at) + "bc" + strings.Repeat("ab", 20-at)
		checkText(t, pairs('b', 'b', 'a', 'b'), "a"+s, swept(pairs('b', 'b', 'a', 'b'), idsOf("a"+s))...)
		checkMeant(t, pairs('b', 'c', 'b', 'a', 'a', 'b'), idsOf(s))
	}
	check(t, abc(), []int{256, 'c', 'a', 'b', 'c', 258}, []int{257, 257, 258})
	check(t, pairs('a', 'b', 'c', 'd', 256, 257, 257, 256), []int{257, 256, 257, 256}, []int{257, 258, 256})
}

// P13.2: of the same rank the first place comes first, so that a merge that overlaps itself leaves the last one alone.
func TestFirstPlaceFirst(t *testing.T) {
	twice := pairs('a', 'a')
	for n := range 40 {
		want := slices.Repeat([]int{256}, n/2)
		if n%2 > 0 {
			want = append(want, 'a')
		}
		checkText(t, twice, strings.Repeat("a", n), want...)
		checkText(t, twice, "b"+strings.Repeat("a", n)+"b", slices.Concat([]int{'b'}, want, []int{'b'})...)
	}
	checkText(t, twice, "aaa", 256, 'a')
	checkText(t, twice, "aaaa", 256, 256)
	checkText(t, pairs('a', 'a', 256, 256), "aaaaaaa", 257, 256, 'a')
	checkText(t, pairs('a', 'a', 256, 'a'), "aaaaa", 256, 257)
	checkText(t, pairs('a', 'a', 'a', 256), "aaaaa", 256, 256, 'a')
	checkText(t, pairs('a', 'a', 'a', 'b'), "aaab", 256, 257)
	checkText(t, pairs('a', 'a', 256, 'b'), "aaab", 256, 'a', 'b')
	checkText(t, pairs('a', 'b', 256, 256), "abababab", 257, 257)
	checkText(t, pairs('a', 'b', 256, 256), "ababab", 257, 256)
	check(t, pairs('a', 'a', 256, 256), []int{256, 'a', 'a', 256}, []int{257, 256})
	check(t, pairs('a', 'a', 256, 256), []int{256, 256, 256}, []int{257, 256})
	check(t, pairs('a', 'a', 256, 256), []int{'a', 256, 256, 'a'}, []int{'a', 257, 'a'})
}

// P13.2: what a merge makes is merged on, with what stands ahead of it and behind it, also where no pair was a merge's before.
func TestMadePossible(t *testing.T) {
	checkText(t, pairs('b', 'c', 'a', 256), "abc", 257)
	checkText(t, pairs('b', 'c', 256, 'd'), "abcd", 'a', 257)
	checkText(t, pairs('b', 'c', 'a', 256, 257, 'd'), "abcd", 258)
	checkText(t, pairs('c', 'd', 'b', 256, 'a', 257), "abcd", 258)
	checkText(t, pairs('a', 'b', 'c', 'd', 256, 257), "abcd", 258)
	checkText(t, pairs('c', 'd', 'a', 'b', 257, 256), "abcdab", 258, 257)
	checkText(t, pairs('c', 'd', 'a', 'b', 'x', 'y', 257, 256), "abcd", 259)
	checkText(t, pairs('b', 'c', 'a', 'b', 'a', 256), "abcab", 258, 257) // bc takes b from ab, and a bc is left
	checkText(t, pairs('b', 'c', 256, 256, 'a', 257), "abcbcbc", 258, 256)
	checkText(t, pairs('b', 'c', 'a', 256, 256, 256), "abcbc", 257, 256)
	checkText(t, pairs('b', 'c', 256, 256, 'a', 256), "abcbc", 'a', 257)
	checkText(t, pairs('a', 'b', 'c', 'a', 'c', 256), "cab", 258) // ca is no pair any more
	for size := 2; size <= 64; size++ {
		for n := range 3 * size {
			l := chain('a', size)
			checkText(t, l, strings.Repeat("a", n), swept(l, idsOf(strings.Repeat("a", n)))...)
		}
	}
	var left, right []int // y is taken from behind, x from ahead, till all is one id
	for i := range 60 {
		left, right = append(left, 255+i, 'y'), append(right, 'x', 255+i)
	}
	left[0], right[1] = 'b', 'b'
	checkText(t, pairs(left...), "b"+strings.Repeat("y", 60), 256+59)
	checkText(t, pairs(right...), strings.Repeat("x", 60)+"b", 256+59)
}

// P13.1 to P13.3: every two merges of two bytes and of what is made, at every short list of ids.
func TestEachSmall(t *testing.T) {
	ids, tried := []int{'a', 'b', 256, 257}, 0
	lists := [][]int{nil}
	for from := 0; len(lists) < 1+4+16+64+256+1024; from++ {
		for _, id := range ids {
			lists = append(lists, append(slices.Clone(lists[from]), id))
		}
	}
	for n := range 1 << 8 {
		l := pairs(ids[n&3], ids[n>>2&3], ids[n>>4&3], ids[n>>6&3])
		if e := meantRight(l); e != api.OK {
			checkWrong(t, l, e)
			continue
		}
		checkRight(t, l)
		for _, list := range lists {
			checkMeant(t, l, list)
		}
		tried++
	}
	if tried != 32 {
		t.Error("tried:", tried)
	}
}

// P13.1 to P13.3: many merges, lists and texts, against the chapter's words.
func TestMany(t *testing.T) {
	for i := range 6000 {
		d := &dice{n: uint64(i)}
		bytes := []string{"a", "ab", "abc", "a\x00\xff", "abcdefgh"}[d.below(5)]
		l := d.merges(bytes, 12)
		if i%8 == 0 {
			checkRight(t, l)
		}
		for range 3 {
			checkMeant(t, l, d.ids(bytes, len(l), 30))
			s := d.text(bytes, 30)
			checkText(t, l, s, swept(l, idsOf(s))...)
		}
	}
	for i := range 12 {
		d := &dice{n: uint64(i) + 1<<32}
		l := d.merges("abc\x00", 1024)
		checkRight(t, l)
		for range 4 {
			checkMeant(t, l, d.ids("abc\x00", len(l), 300))
			checkMeant(t, l, idsOf(d.text("abc\x00", 300)))
		}
		ids := idsOf(strings.Repeat(d.text("abc\x00", 200)+"a", 4096)[:4096])
		got, e := merge.Apply(l, ids)
		if e != api.OK || !slices.Equal(got, swept(l, ids)) {
			t.Error("a long list of", i, "is not as it is meant:", e)
		}
		checkFollows(t, l, ids, got)
	}
}

// P13.1: merges of which some may not be, against the chapter's words.
func TestManyWrong(t *testing.T) {
	wrong := 0
	for i := range 6000 {
		d := &dice{n: uint64(i) + 1<<33}
		l := d.merges("ab", 10)
		for range 1 + d.below(2) {
			m := api.Merge{Left: d.id("ab", len(l)+1), Right: d.id("ab", len(l)+1)}
			l = slices.Insert(l, d.below(len(l)+1), m)
		}
		if e := meantRight(l); e != api.OK {
			checkWrong(t, l, e)
			wrong++
		} else {
			checkRight(t, l)
		}
	}
	if wrong < 1000 || wrong > 5000 {
		t.Error("wrong ones that were tried:", wrong)
	}
}

// share tells whether two lists lie in the same memory, also behind their ends.
func share[E any](a, b []E) bool {
	a, b = a[:cap(a)], b[:cap(b)]
	if len(a) == 0 || len(b) == 0 {
		return false
	}
	size := unsafe.Sizeof(a[0])
	from, to := uintptr(unsafe.Pointer(&a[0])), uintptr(unsafe.Pointer(&b[0]))
	return from < to+uintptr(len(b))*size && to < from+uintptr(len(a))*size
}

// R4: what is answered is new memory, and what is given stays as it is.
func TestAnswersAreTheirOwn(t *testing.T) {
	room := append(abc(), pairs('x', 'x', 'y', 'y')...)
	l := room[:3]
	for _, given := range [][]int{{}, {'a'}, {256}, {'a', 'b'}, {'c', 'c', 'c'}, idsOf("abcbcab")} {
		ids := append(given, -1, -1)[:len(given)]
		whole := slices.Clone(ids[:cap(ids)])
		first, _ := merge.Apply(l, ids)
		second, _ := merge.Apply(l, ids)
		if share(first, ids) || share(first, second) {
			t.Error("Apply of", show(ids), "shares its memory")
		}
		if !slices.Equal(ids[:cap(ids)], whole) {
			t.Error("the ids were changed:", ids[:cap(ids)])
		}
		for i := range first {
			first[i] = -7
		}
		check(t, l, ids, swept(l, ids))
	}
	first, _ := merge.Texts(l)
	second, _ := merge.Texts(l)
	if share(first, second) {
		t.Error("Texts share their memory")
	}
	for id := range first {
		for other := range second[:id+1] {
			if share(unsafe.Slice(unsafe.StringData(first[id]), len(first[id])), unsafe.Slice(unsafe.StringData(second[other]), len(second[other]))) {
				t.Error("the texts of", id, other, "share their memory")
			}
		}
	}
	clear(first)
	checkRight(t, l)
	if _, e := merge.Tokens(l, "abcbc"); e != api.OK || !slices.Equal(room, append(abc(), pairs('x', 'x', 'y', 'y')...)) {
		t.Error("the merges were changed:", room)
	}
}

// R1: no call keeps anything, so that several may be made at one time.
func TestNothingIsKept(t *testing.T) {
	shared, ids := abc(), idsOf("abcbcab")
	var group sync.WaitGroup
	for range 8 {
		group.Go(func() {
			for i := range 60 {
				d := &dice{n: uint64(i)}
				checkMeant(t, shared, ids)
				checkMeant(t, shared, d.ids("abcd", 3, 20))
				l := d.merges("abcd", 9)
				checkRight(t, l)
				checkMeant(t, l, d.ids("abcd", len(l), 20))
				checkWrong(t, pairs('a', 257), api.ErrMerge)
				checkApplyFails(t, shared, []int{259}, api.ErrArg)
			}
			checkWrong(t, make([]api.Merge, 1025), api.ErrLong)
		})
	}
	group.Wait()
}

// FuzzMerges takes two bytes a merge: each is a byte's id, or, from 128 on, a merge's.
func FuzzMerges(f *testing.F) {
	f.Add("ab\x80cbc", "abcbc\x80\x81")
	f.Add("aa\x80\x80\x81\x81", "aaaaaaaaaaaaaaa")
	f.Add("a\x81", "a")
	f.Add("abab", "ab")
	f.Fuzz(func(t *testing.T, parts, s string) {
		id := func(b byte) int { return int(b) + int(b)>>7*128 }
		var l []api.Merge
		for i := 1; i < min(len(parts), 80); i += 2 {
			l = append(l, api.Merge{Left: id(parts[i-1]), Right: id(parts[i])})
		}
		if e := meantRight(l); e != api.OK {
			checkWrong(t, l, e)
			return
		}
		checkRight(t, l)
		s = s[:min(len(s), 200)]
		checkText(t, l, s, meantApply(l, idsOf(s))...)
		var ids []int
		for _, b := range []byte(s) {
			ids = append(ids, id(b))
		}
		if slices.ContainsFunc(ids, func(id int) bool { return id >= 256+len(l) }) {
			checkApplyFails(t, l, ids, api.ErrArg)
			return
		}
		checkMeant(t, l, ids)
	})
}
