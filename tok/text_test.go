package tok_test

import (
	"math"
	"slices"
	"strings"
	"testing"

	"fretsaw/api"
	"fretsaw/tok"
	"fretsaw/utf"
)

// checkText asks for what ids write, and for what is shown of them.
func checkText(t *testing.T, c api.Config, ids []int, want, shown string) {
	t.Helper()
	if got, e := tok.Text(c, ids); e != api.OK || got != want {
		t.Errorf("Text(%s, %s) = %s, %d; want %s", show(c), show(ids), show(got), e, show(want))
	}
	if got, e := tok.Show(c, ids); e != api.OK || got != shown {
		t.Errorf("Show(%s, %s) = %s, %d; want %s", show(c), show(ids), show(got), e, show(shown))
	}
}

// checkTexts holds both against the chapter's words.
func checkTexts(t *testing.T, c api.Config, ids []int) {
	t.Helper()
	want, e := meantText(c, ids)
	if e != api.OK {
		checkTextFails(t, c, ids, e)
		return
	}
	checkText(t, c, ids, want, meantShown(want))
	if !utf.Valid(meantShown(want)) || meantShown(want) != utf.Fix(want) {
		t.Errorf("%s is shown as %s; utf.Fix makes %s of it", show(want), show(meantShown(want)), show(utf.Fix(want)))
	}
}

// checkTextFails asks for an error, and that nothing stands beside it.
func checkTextFails(t *testing.T, c api.Config, ids []int, want api.Errno) {
	t.Helper()
	if got, e := tok.Text(c, ids); e != want || got != "" {
		t.Errorf("Text(%s, %s of %d) = %s, %d; want %d alone", show(c), show(ids), len(ids), show(got), e, want)
	}
	if got, e := tok.Show(c, ids); e != want || got != "" {
		t.Errorf("Show(%s, %s of %d) = %s, %d; want %d alone", show(c), show(ids), len(ids), show(got), e, want)
	}
}

// P18.2: what may not be is told, whatever the ids: ahead of ErrLong and ErrArg.
func TestTextOfWrongConfigs(t *testing.T) {
	for _, x := range wrongs() {
		for _, ids := range [][]int{nil, {}, {'a'}, {256, 257}, {258}, {-1}, {math.MaxInt}, make([]int, mostIds+1), slices.Repeat([]int{-1}, mostIds+1)} {
			checkTextFails(t, x.c, ids, x.e)
		}
	}
}

// P18.2: each kind of id, the first and the last one of each, and what is none.
func TestTextOfEachId(t *testing.T) {
	for b := range 256 {
		sign := string([]byte{byte(b)})
		want := sign
		if b > 127 {
			want = "\uFFFD"
		}
		checkText(t, chapter(), []int{b}, sign, want)
	}
	checkText(t, chapter(), nil, "", "")
	checkText(t, chapter(), []int{}, "", "")
	checkText(t, chapter(), []int{256}, "ab", "ab")
	checkText(t, chapter(), []int{257}, "abc", "abc")
	checkText(t, chapter(), []int{258}, "", "")
	checkText(t, chapter(), []int{258, 257, 258, 256, 32, 258, 99, 258}, "abcab c", "abcab c")
	for _, many := range []struct{ merges, names int }{{0, 0}, {0, 1}, {1, 0}, {0, 64}, {1024, 0}, {1024, 64}, {3, 5}} {
		c := api.Config{Split: tree("."), Merges: twoByTwo(many.merges), Names: numbered(many.names)}
		end := 256 + many.merges + many.names
		for id := range end {
			checkTexts(t, c, []int{id})
		}
		last := string([]byte{byte((many.merges - 1) % 256), byte((many.merges - 1) / 256)})
		if many.merges == 0 {
			last = "\xff"
		}
		checkText(t, c, []int{255 + many.merges}, last, meantShown(last))
		for i := range many.names {
			checkText(t, c, []int{256 + many.merges + i}, "", "")
			checkText(t, c, []int{'<', 256 + many.merges + i, '>'}, "<>", "<>")
		}
		for _, id := range []int{-1, -2, -256, math.MinInt, end, end + 1, end + 1000, 1 << 32, math.MaxInt} {
			checkTextFails(t, c, []int{id}, api.ErrArg)
			checkTextFails(t, c, []int{id, 'a'}, api.ErrArg)
			checkTextFails(t, c, []int{'a', 'b', id}, api.ErrArg)
		}
	}
}

// P18.2: a name writes nothing, also where no name stands before or after, and passes and the split change nothing of what ids write.
func TestTextHangsOnIds(t *testing.T) {
	c := chapter()
	ids := []int{258, 'A', 256, ' ', 257}
	checkText(t, c, ids, "Aab abc", "Aab abc")
	c.Before, c.After = nil, slices.Repeat([]int{0}, 32)
	checkText(t, c, ids, "Aab abc", "Aab abc")
	c.Passes = [][]api.Rule{rules("A", "a", "ab", "x", "b", "")}
	c.Split = tree("[^\\x00-\\xff]")
	checkText(t, c, ids, "Aab abc", "Aab abc")
	c.Names = append(c.Names, "more")
	checkText(t, c, append(ids, 259), "Aab abc", "Aab abc")
}

// P18.2: how many ids there may be, of whatever kind; ErrLong is found ahead of ErrArg.
func TestTextOfManyIds(t *testing.T) {
	c := chapter()
	c.Merges = doubled('a', 6) // 261 writes 64 bytes, 262 is the name
	for id, want := range map[int]string{'b': "b", 261: strings.Repeat("a", 64), 262: "", 0xFF: "\xff"} {
		ids := slices.Repeat([]int{id}, mostIds)
		all := strings.Repeat(want, mostIds)
		checkText(t, c, ids, all, meantShown(all))
		checkText(t, c, ids[1:], all[len(want):], meantShown(all[len(want):]))
		checkTextFails(t, c, append(ids, id), api.ErrLong)
		checkTextFails(t, c, append(ids, -1), api.ErrLong)
		checkTextFails(t, c, append([]int{-1}, ids...), api.ErrLong)
		checkTextFails(t, c, append([]int{263}, ids...), api.ErrLong)
		checkTextFails(t, c, append([]int{263}, ids[1:]...), api.ErrArg)
		checkTextFails(t, c, append(slices.Clone(ids[1:]), -1), api.ErrArg)
		checkTextFails(t, c, slices.Repeat(ids, 3), api.ErrLong)
	}
	checkTextFails(t, c, slices.Repeat([]int{-1}, mostIds), api.ErrArg)
	checkTextFails(t, c, slices.Repeat([]int{-1}, mostIds+1), api.ErrLong)
}

// P18.2: what is shown is well-formed: ids together may write a character, or what is none.
func TestShow(t *testing.T) {
	c := parsed(`split ./merge "\xe2" "\x82"/merge "\xe2\x82" "\xac"/merge "\xc3" "\xc3"/name "x"`)
	for _, x := range []struct {
		ids         []int
		text, shown string
	}{
		{[]int{0xC3, 0xA9}, "\u00e9", "\u00e9"},
		{[]int{0xA9, 0xC3}, "\xa9\xc3", "\uFFFD\uFFFD"},
		{[]int{0xC3, 259, 0xA9}, "\u00e9", "\u00e9"},
		{[]int{256}, "\xe2\x82", "\uFFFD\uFFFD"},
		{[]int{256, 0xAC}, "\u20ac", "\u20ac"},
		{[]int{257}, "\u20ac", "\u20ac"},
		{[]int{256, 'B'}, "\xe2\x82B", "\uFFFD\uFFFDB"},
		{[]int{'A', 0xE2, 'B', 257, 0x82}, "A\xe2B\u20ac\x82", "A\uFFFDB\u20ac\uFFFD"},
		{[]int{258, 0xA9}, "\xc3\u00e9", "\uFFFD\u00e9"},
		{[]int{0xEF, 0xBF, 0xBD}, "\uFFFD", "\uFFFD"},
		{[]int{0xED, 0xA0, 0x80}, "\xed\xa0\x80", "\uFFFD\uFFFD\uFFFD"},
		{[]int{0xC0, 0x80}, "\xc0\x80", "\uFFFD\uFFFD"},
		{[]int{0xF4, 0x90, 0x80, 0x80}, "\xf4\x90\x80\x80", "\uFFFD\uFFFD\uFFFD\uFFFD"},
		{[]int{0xF0, 0x9F, 0x98, 0x80}, "\U0001F600", "\U0001F600"},
		{[]int{0xF0, 0x9F, 0x98}, "\xf0\x9f\x98", "\uFFFD\uFFFD\uFFFD"},
	} {
		checkText(t, c, x.ids, x.text, x.shown)
		checkTexts(t, c, x.ids)
	}
	all, e := tok.Tok(c, everything())
	if e != api.OK {
		t.Fatal(e)
	}
	checkText(t, c, all, everything(), everything()[:128]+strings.Repeat("\uFFFD", 128))
}

// P18.2: ids that are drawn, some of which are none.
func TestTextDrawn(t *testing.T) {
	wrongOnes := 0
	for i := range uint64(6000) {
		d := dice(40000 + i)
		c := drawn(d)
		ids := drawnIds(d, c)
		checkTexts(t, c, ids)
		end := 256 + len(c.Merges) + len(c.Names)
		ids = slices.Insert(ids, d.IntN(len(ids)+1), one(d, -1, end, end-1, end+1, -d.IntN(1000), end+d.IntN(1000)))
		if _, e := meantText(c, ids); e != api.OK {
			wrongOnes++
		}
		checkTexts(t, c, ids)
	}
	if wrongOnes < 2000 {
		t.Error("too few were wrong:", wrongOnes)
	}
}

// R4, R7: what is answered is new memory, and what is given stays as it is.
func TestTextIsItsOwn(t *testing.T) {
	for i := range uint64(500) {
		d := dice(60000 + i)
		c := drawn(d)
		ids := drawnIds(d, c)
		keptIds, kept := slices.Clone(ids), copied(c)
		s, _ := tok.Text(c, ids)
		again, _ := tok.Text(c, ids)
		shown, _ := tok.Show(c, ids)
		other, _ := tok.Show(c, ids)
		answers := []span{textSpan(s), textSpan(again), textSpan(shown), textSpan(other)}
		for i, answer := range answers {
			for _, given := range append(spans(c), answers[:i]...) {
				if answer.meets(given) {
					t.Error("Text or Show shares its memory", show(c), show(ids))
				}
			}
		}
		if !same(c, kept) || !slices.Equal(ids, keptIds) {
			t.Errorf("%s, %s were given, and are %s, %s", show(kept), show(keptIds), show(c), show(ids))
		}
	}
}
