package config_test

import (
	"fmt"
	"slices"
	"strings"
	"sync"
	"testing"
	"unsafe"

	"fretsaw/api"
	"fretsaw/config"
	"fretsaw/regex"
)

// checkPrint asks what is printed of a configuration, and that this is parsed as the same one.
func checkPrint(t *testing.T, c api.Config, want string) {
	t.Helper()
	s, e := config.Print(c)
	if e != api.OK || s != want {
		t.Errorf("Print(%s) = %s, %d; want %s", show(c), showText(s), e, showText(want))
	}
	if meant, e := meantPrint(c); e != api.OK || meant != want {
		t.Errorf("Print(%s): meant is %s, %d; want %s", show(c), showText(meant), e, showText(want))
	}
	checkParse(t, want, c)
}

// checkPrintFails asks for an error, and that there is nothing beside it.
func checkPrintFails(t *testing.T, c api.Config, want api.Errno) {
	t.Helper()
	if s, e := config.Print(c); e != want || s != "" {
		t.Errorf("Print(%s) = %s, %d; want %d", show(c), showText(s), e, want)
	}
	if _, e := meantPrint(c); e != want {
		t.Errorf("Print(%s): meant is %d; want %d", show(c), e, want)
	}
}

// P17.3: each kind of line, in the order of kinds.
func TestPrint(t *testing.T) {
	checkPrint(t, plain(), strings.Join([]string{
		"fretsaw 1", "pass", `rule "A" -> "a"`, "split [a-z]+", `merge "a" "b"`, `merge "ab" "c"`, `name "<s>"`, `name "</s>"`, `before "<s>"`, `after "</s>"`, `after "<s>"`, "",
	}, "\n"))
	checkPrint(t, api.Config{Split: tree("")}, "fretsaw 1\nsplit \n")
	checkPrint(t, api.Config{Split: tree(" #|\n")}, "fretsaw 1\nsplit \\x20#|\\n\n")
	checkPrint(t, api.Config{Passes: [][]api.Rule{nil, {{From: "a"}, {From: "b", To: "aa"}}, {}}, Split: tree(".")}, lined(`fretsaw 1/pass/pass/rule "a" -> ""/rule "b" -> "aa"/pass/split ./`))
	checkPrint(t, api.Config{Split: tree("[a-c]{1}(x)"), Merges: []api.Merge{{Left: 0, Right: 255}, {Left: 34, Right: 256}, {Left: 257, Right: 257}}}, lined(`fretsaw 1/split [abc]x/merge "\x00" "\xff"/merge "\"" "\x00\xff"/merge "\"\x00\xff" "\"\x00\xff"/`))
	checkPrint(t, api.Config{Split: tree("a"), Names: []string{"b", "a"}, After: []int{1, 1, 0}}, lined(`fretsaw 1/split a/name "b"/name "a"/after "a"/after "a"/after "b"/`))
	checkPrint(t, api.Config{Split: tree("a"), Names: []string{" "}, Before: []int{0, 0}}, lined(`fretsaw 1/split a/name " "/before " "/before " "/`))
}

// P17.3: each byte within quotes: all of them are Froms, and Tos, and merged, and names as many as there may be.
func TestPrintBytes(t *testing.T) {
	c := api.Config{Split: tree(".")}
	lines := "fretsaw 1\n"
	merges := ""
	for b := range 256 {
		if b%64 == 0 {
			c.Passes = append(c.Passes, nil)
			lines += "pass\n"
		}
		sign := string([]byte{byte(b)})
		written := meantQuotes(sign)
		c.Passes[b/64] = append(c.Passes[b/64], api.Rule{From: sign, To: sign})
		c.Merges = append(c.Merges, api.Merge{Left: b, Right: b})
		lines += "rule " + written + " -> " + written + "\n"
		merges += "merge " + written + " " + written + "\n"
	}
	checkPrint(t, c, lines+"split .\n"+merges)
	for b := range 256 {
		sign := string([]byte{byte(b)})
		want := sign
		switch {
		case b == '"' || b == '\\':
			want = `\` + sign
		case b == 10:
			want = `\n`
		case b == 9:
			want = `\t`
		case b == 13:
			want = `\r`
		case b < 32 || b > 126:
			want = `\x` + string("0123456789abcdef"[b/16]) + string("0123456789abcdef"[b%16])
		}
		checkPrint(t, api.Config{Split: tree("."), Names: []string{"a" + sign + "0"}, Before: []int{0}}, "fretsaw 1\nsplit .\nname \"a"+want+"0\"\nbefore \"a"+want+"0\"\n")
	}
}

// P17.3: an expression that has no room is told by regex.Print's error, behind those of Right.
func TestPrintSplit(t *testing.T) {
	wide := func(many int) api.Re {
		return api.Re{Kind: api.RCat, Kids: slices.Repeat([]api.Re{tree("[ab]")}, many)}
	}
	c := plain()
	c.Split = wide(128)
	if s, e := regex.Print(c.Split); e != api.OK || len(s) != 512 {
		t.Error("an expression of 512 bytes was meant:", s, e)
	}
	got, e := config.Print(c)
	if back, e2, _ := config.Parse(got); e != api.OK || e2 != api.OK || !same(back, c) {
		t.Error("Print of an expression of 512 bytes =", got, e, e2)
	}
	c.Split = wide(129)
	checkPrintFails(t, c, api.ErrLong)
	c.Names = append(c.Names, "")
	checkPrintFails(t, c, api.ErrConfig)
}

// filled is a configuration of which just so many bytes would be printed, some 65000 at least: the last ones of names.
func filled(t *testing.T, total int) api.Config {
	c := api.Config{Split: tree("."), Passes: make([][]api.Rule, 4), Merges: pairs(1024)}
	for i := range c.Passes {
		for b := range 64 {
			from := strings.Repeat("\x00", 15) + string([]byte{byte(b)})
			c.Passes[i] = append(c.Passes[i], api.Rule{From: from, To: strings.Repeat("\xff", 25)})
		}
	}
	const around, most = len("name \"\"\n"), 32 + len("name \"\"\n")
	for len(c.Names) <= mostNames {
		left := total - len(meantLines(c, "."))
		switch {
		case left == 0:
			return c
		case left > 2*most:
			left = most
		case left > most:
			left /= 2
		}
		c.Names = append(c.Names, fmt.Sprintf("%0*d", left-around, len(c.Names)))
	}
	t.Fatal("so many bytes can't be printed:", total)
	return c
}

// P17.3: what is printed has at most MaxConfig bytes.
func TestPrintLong(t *testing.T) {
	c := filled(t, 65536)
	checkRight(t, c, api.OK)
	s, e := config.Print(c)
	if e != api.OK || len(s) != 65536 || s != meantLines(c, ".") {
		t.Errorf("Print = %d bytes, %d; want 65536", len(s), e)
	}
	if back, e, at := config.Parse(s); e != api.OK || at != 0 || !same(back, c) {
		t.Error("what was printed is parsed as another configuration", e, at)
	}
	c = filled(t, 65537)
	checkRight(t, c, api.OK)
	checkPrintFails(t, c, api.ErrLong)
}

// P17.3: as many merges as may be, most of them of as many bytes as may be, and each byte written by four.
func TestPrintLongest(t *testing.T) {
	c := api.Config{Split: tree(strings.Repeat("\\x00", 128)), Merges: pairs(1)}
	ofNoughts := func(many int) int { return 254 + many } // the id of so many bytes 0
	for many := 2; many < 64; many++ {
		c.Merges = append(c.Merges, api.Merge{Left: 0, Right: ofNoughts(many)})
	}
	for i := range 1024 - len(c.Merges) {
		c.Merges = append(c.Merges, api.Merge{Left: ofNoughts(63 - i/255), Right: 255 - i%255})
	}
	checkRight(t, c, api.OK)
	checkPrintFails(t, c, api.ErrLong)
}

// P17.4: what is printed is parsed as the same configuration; what is parsed may be, and is printed and parsed again the same.
func TestPrintedAndParsed(t *testing.T) {
	for i := range uint64(3000) {
		d := dice(100000 + i)
		c := drawn(d)
		s, e := config.Print(c)
		if meant, want := meantPrint(c); s != meant || e != want {
			t.Fatalf("Print(%s) = %s, %d; want %s, %d", show(c), showText(s), e, showText(meant), want)
		}
		if e != api.OK {
			t.Fatalf("Print(%s) = %d", show(c), e)
		}
		if back, e, at := config.Parse(s); e != api.OK || at != 0 || !same(back, c) {
			t.Fatalf("Parse(%s) = %s, %d, %d; want %s", showText(s), show(back), e, at, show(c))
		}
		split := expression(d)
		c.Split = tree(split)
		read, e, _ := config.Parse(looseText(d, c, split))
		if e != api.OK || config.Right(read) != api.OK || !same(read, c) {
			t.Fatalf("%s was read as %s, %d", show(c), show(read), e)
		}
		s, e = config.Print(read)
		again, e2, _ := config.Parse(s)
		if e != api.OK || e2 != api.OK || !same(again, c) {
			t.Fatalf("%s was read again as %s, %d, %d", show(c), show(again), e, e2)
		}
	}
}

// span is where memory lies.
type span struct{ from, to uintptr }

// listSpan is a list's, with what stands behind it up to its capacity.
func listSpan[E any](l []E) span {
	var e E
	from := uintptr(unsafe.Pointer(unsafe.SliceData(l)))
	return span{from, from + uintptr(cap(l))*unsafe.Sizeof(e)}
}

func textSpan(s string) span {
	from := uintptr(unsafe.Pointer(unsafe.StringData(s)))
	return span{from, from + uintptr(len(s))}
}

func treeSpans(t api.Re) []span {
	l := []span{listSpan(t.Kids)}
	for _, kid := range t.Kids {
		l = append(l, treeSpans(kid)...)
	}
	return l
}

// spans is those of all lists and texts of a configuration.
func spans(c api.Config) []span {
	l := []span{listSpan(c.Passes), listSpan(c.Merges), listSpan(c.Names), listSpan(c.Before), listSpan(c.After)}
	for _, rules := range c.Passes {
		l = append(l, listSpan(rules))
		for _, r := range rules {
			l = append(l, textSpan(r.From), textSpan(r.To))
		}
	}
	for _, name := range c.Names {
		l = append(l, textSpan(name))
	}
	return append(l, treeSpans(c.Split)...)
}

// shared tells whether any two of these lie in the same memory.
func shared(l ...span) bool {
	l = slices.DeleteFunc(slices.Clone(l), func(s span) bool { return s.from == s.to })
	slices.SortFunc(l, func(a, b span) int {
		if a.from < b.from {
			return -1
		}
		return 1
	})
	for i := range len(l) - 1 {
		if l[i].to > l[i+1].from {
			return true
		}
	}
	return false
}

// R4: what is answered is new memory, and what is given stays as it is.
func TestAnswersAreTheirOwn(t *testing.T) {
	for i := range uint64(300) {
		c := drawn(dice(i))
		kept := copied(c)
		config.Right(c)
		s, _ := config.Print(c)
		again, _ := config.Print(c)
		for _, given := range append(spans(c), textSpan(again)) {
			if shared(given, textSpan(s)) {
				t.Error("Print shares its memory", show(c))
			}
		}
		first, _, _ := config.Parse(s)
		second, _, _ := config.Parse(s)
		if shared(append(append(spans(first), spans(second)...), textSpan(s))...) {
			t.Error("Parse shares its memory", showText(s))
		}
		if !same(c, kept) {
			t.Errorf("%s was given, and is %s", show(kept), show(c))
		}
	}
	c := plain()
	c.Passes, c.Names, c.Before = c.Passes[:0], c.Names[:1], c.Before[:0]
	c.After = c.After[1:]
	config.Print(c)
	if want := plain(); !same(api.Config{Passes: c.Passes[:1], Split: c.Split, Merges: c.Merges, Names: c.Names[:2], Before: c.Before[:1], After: append([]int{1}, c.After...)}, want) {
		t.Error("what stands behind a list was changed", show(c))
	}
}

// R1: each call is a function of its arguments alone, also if several call at one time.
func TestCallsAtOneTime(t *testing.T) {
	var group sync.WaitGroup
	for i := range uint64(16) {
		group.Go(func() {
			for j := range uint64(30) {
				d := dice(j)
				c := drawn(d)
				s, _ := config.Print(c)
				if meant, _ := meantPrint(c); s != meant || config.Right(c) != api.OK {
					t.Error(i, "Print =", showText(s))
				}
				if back, e, _ := config.Parse(s); e != api.OK || !same(back, c) {
					t.Error(i, "Parse =", show(back))
				}
				if _, e, at := config.Parse(s + "\nx"); e != api.ErrSign || at != len(s)+1 {
					t.Error(i, "Parse =", e, at)
				}
			}
		})
	}
	group.Wait()
}

// P1, P17.1, P17.4: whatever the text.
func FuzzParse(f *testing.F) {
	for i := range uint64(20) {
		d := dice(i)
		split := expression(d)
		c := drawn(d)
		c.Split = tree(split)
		f.Add(looseText(d, c, split))
	}
	for _, line := range samples() {
		f.Add(ahead + line + "\nsplit .")
	}
	f.Fuzz(func(t *testing.T, s string) {
		checkMeant(t, s)
		c, e, _ := config.Parse(s)
		if e != api.OK {
			return
		}
		if config.Right(c) != api.OK {
			t.Errorf("%s was read of %s", show(c), showText(s))
		}
		printed, e := config.Print(c)
		if meant, want := meantPrint(c); printed != meant || e != want {
			t.Errorf("Print(%s) = %s, %d", show(c), showText(printed), e)
		}
		if e == api.OK {
			checkParse(t, printed, c)
		}
	})
}
