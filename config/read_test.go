package config_test

import (
	"fmt"
	"slices"
	"strings"
	"testing"

	"fretsaw/api"
	"fretsaw/config"
)

const head = "fretsaw 1\n"

// lined is a text whose lines are parted by / here.
func lined(s string) string { return strings.ReplaceAll(s, "/", "\n") }

// checkParse asks for a text's configuration.
func checkParse(t *testing.T, s string, want api.Config) {
	t.Helper()
	if got, e, at := config.Parse(s); e != api.OK || at != 0 || !same(got, want) {
		t.Errorf("Parse(%s) = %s, %d, %d; want %s", showText(s), show(got), e, at, show(want))
	}
	if meant, e, _ := meantParse(s); e != api.OK || !same(meant, want) {
		t.Errorf("Parse(%s): meant is %s, %d; want %s", showText(s), show(meant), e, show(want))
	}
}

// checkFails asks for a text's error and its place, and that there is nothing beside them.
func checkFails(t *testing.T, s string, want api.Errno, place int) {
	t.Helper()
	if got, e, at := config.Parse(s); e != want || at != place || !nothing(got) {
		t.Errorf("Parse(%s) = %s, %d, %d; want %d, %d", showText(s), show(got), e, at, want, place)
	}
	if _, e, at := meantParse(s); e != want || at != place {
		t.Errorf("Parse(%s): meant is %d, %d; want %d, %d", showText(s), e, at, want, place)
	}
}

// checkMeant asks for a text's answer, whatever it is.
func checkMeant(t *testing.T, s string) {
	t.Helper()
	got, e, at := config.Parse(s)
	meant, want, place := meantParse(s)
	if e != want || at != place || !same(got, meant) {
		t.Errorf("Parse(%s) = %s, %d, %d; want %s, %d, %d", showText(s), show(got), e, at, show(meant), want, place)
	}
}

// P17.1: the chapter's examples, and DOC.md's.
func TestParseExamples(t *testing.T) {
	checkParse(t, lined(`fretsaw 1/split [a-z]+/merge "a" "b"/merge "ab" "c"/`), api.Config{
		Split:  tree("[a-z]+"),
		Merges: []api.Merge{{Left: 97, Right: 98}, {Left: 256, Right: 99}},
	})
	checkParse(t, lined(`fretsaw 1/pass/rule "A" -> "a"/split ./name "<s>"/before "<s>"`), api.Config{
		Passes: [][]api.Rule{{{From: "A", To: "a"}}},
		Split:  tree("."),
		Names:  []string{"<s>"},
		Before: []int{0},
	})
	checkFails(t, "fretsaw 2", api.ErrSign, 8)
	checkFails(t, "fretsaw 1", api.ErrConfig, 9)
	checkFails(t, lined("fretsaw 1/split (/"), api.ErrRegex, 17)
	checkFails(t, lined("fretsaw 1/split ("), api.ErrRegex, 17)
	checkFails(t, lined(`fretsaw 1/rule "a" -> "b"`), api.ErrConfig, 10)
	checkFails(t, lined(`fretsaw 1/split ./merge "ab" "c"`), api.ErrName, 24)
	checkFails(t, lined(`fretsaw 1/split .//merge "ab" "c"`), api.ErrName, 25)
}

// P17.1: each kind of line means what the chapter says, in whatever order the kinds stand.
func TestParseKinds(t *testing.T) {
	checkParse(t, lined(`fretsaw 1/name "a"/name "b b"/after "a"/before "b b"/after "b b"/after "a"/merge "\x00" "a"/pass/pass/rule "a" -> ""/rule "b" -> "\n"/merge "\x00a" "\x00a"/pass/split  a/rule "c" -> " # "/`), api.Config{
		Passes: [][]api.Rule{{}, {{From: "a"}, {From: "b", To: "\n"}}, {{From: "c", To: " # "}}},
		Split:  tree(" a"),
		Merges: []api.Merge{{Left: 0, Right: 97}, {Left: 256, Right: 256}},
		Names:  []string{"a", "b b"},
		Before: []int{1},
		After:  []int{0, 1, 0},
	})
}

// P17.1: a text without a line, with the first one alone, and with others.
func TestParseLines(t *testing.T) {
	checkFails(t, "", api.ErrSign, 0)
	checkFails(t, "\n", api.ErrSign, 0)
	checkFails(t, "fretsaw 1", api.ErrConfig, 9)
	checkFails(t, "fretsaw 1\n", api.ErrConfig, 10)
	checkFails(t, "fretsaw 1\n\n\n", api.ErrConfig, 12)
	dot := api.Config{Split: tree(".")}
	for _, s := range []string{"/split .", "/split ./", "//split .", "/split .//", "///split .///", "/#/split .", "/#split a/split ./# /#\x00\xff\"", "/##/split ./#/", "/split ./#"} {
		checkParse(t, "fretsaw 1"+lined(s), dot)
	}
}

// P17.1: the first line is just one, and no other one is.
func TestParseFirstLine(t *testing.T) {
	line := "fretsaw 1"
	for n := range len(line) {
		for _, behind := range []string{"", "\n", "\nsplit .\n", "\n\n#"} {
			checkFails(t, line[:n]+behind, api.ErrSign, n)
		}
		for b := range 256 {
			if byte(b) != line[n] {
				s := line[:n] + string([]byte{byte(b)}) + line[n+1:] + "\nsplit ."
				if _, e, at := config.Parse(s); e != api.ErrSign || at != n {
					t.Errorf("Parse(%q) = %d, %d; want %d", s, e, at, n)
				}
			}
		}
	}
	for _, behind := range []string{" ", "0", "\r", "\t", "#", " # ", "\x00", "1", ".0"} {
		checkFails(t, line+behind, api.ErrSign, 9)
		checkFails(t, line+behind+"\nsplit .\n", api.ErrSign, 9)
	}
	for _, s := range []string{"#", "# fretsaw 1\nfretsaw 1\nsplit .", "\nfretsaw 1\nsplit .", "split .", "pass", " fretsaw 1\nsplit .", "\xef\xbb\xbffretsaw 1\nsplit .", "Fretsaw 1"} {
		checkFails(t, s, api.ErrSign, 0)
	}
	checkFails(t, "fretsaw  1\nsplit .", api.ErrSign, 8)
	checkFails(t, "f", api.ErrSign, 1)
	checkFails(t, head+line, api.ErrSign, 10)
	checkFails(t, head+"split .\n"+line+"\n", api.ErrSign, 18)
	checkFails(t, head+"split .\n"+"f", api.ErrSign, 18)
}

// ahead makes each of samples one that may stand behind it.
const ahead = head + "pass\nname \"ab\"\nmerge \"a\" \"b\"\n"

// samples is a line of each kind.
func samples() []string {
	return []string{"pass", `rule "ab" -> "cd"`, "split a+", `merge "ab" "c"`, `name "cd"`, `before "ab"`, `after "ab"`}
}

// fixed tells whether just one byte may stand at a place of a line, but its first one: it is not within quotes or the one that ends them, nor in an expression.
func fixed(line string, at int) bool {
	if strings.HasPrefix(line, "split ") && at >= len("split ") {
		return false
	}
	return strings.Count(line[:at], `"`)%2 == 0
}

// P17.1: a line that ends too early is told where it ends.
func TestParseLinesCutShort(t *testing.T) {
	for _, line := range samples() {
		for n := 1; n < len(line); n++ {
			if strings.HasPrefix(line[:n], "split ") {
				checkParse(t, head+line[:n], api.Config{Split: tree(line[6:n])})
				continue
			}
			for _, behind := range []string{"", "\n", "\n\n", "\nsplit .\n", "\nfretsaw"} {
				checkFails(t, ahead+line[:n]+behind, api.ErrSign, len(ahead)+n)
			}
		}
	}
}

// P17.1: a line is told at the first byte at which it is no longer one's beginning.
func TestParseLinesWithAByteExchanged(t *testing.T) {
	for _, line := range samples() {
		for at := range len(line) {
			if at == 0 || !fixed(line, at) {
				continue
			}
			for b := range 256 {
				s := ahead + line[:at] + string([]byte{byte(b)}) + line[at+1:] + "\nsplit .\n"
				if got, e, place := config.Parse(s); byte(b) != line[at] && (e != api.ErrSign || place != len(ahead)+at || !nothing(got)) {
					t.Errorf("Parse(%q) = %d, %d; want %d", s, e, place, len(ahead)+at)
				}
			}
		}
	}
}

// P17.1: the same for each place of a line, and for bytes that are laid between and left out, as the chapter's words tell it.
func TestParseLinesChanged(t *testing.T) {
	for _, line := range append(samples(), `rule "\x4f\"" -> "\\\n"`) {
		t.Run(line, func(t *testing.T) {
			t.Parallel()
			for at := range len(line) + 1 {
				for _, b := range []byte("abfmnprsx0 !~\"#\\->\n\t\r\x00\x1f\x7f\x80\xff") {
					sign := string([]byte{b})
					checkMeant(t, ahead+line[:at]+sign+line[at:])
					if at < len(line) {
						checkMeant(t, ahead+line[:at]+sign+line[at+1:]+"\nsplit .\n")
					}
				}
				checkMeant(t, ahead+line[:at]+line[min(at+1, len(line)):]+"\nsplit .")
			}
		})
	}
}

// P17.1: words that are none, told where they are no longer the beginning of one.
func TestParseWords(t *testing.T) {
	for _, x := range []struct {
		line string
		at   int
	}{
		{"passe", 4}, {"pass ", 4}, {"pas ", 3}, {"pas", 3}, {"past", 3}, {"psplit .", 1}, {"Pass", 0}, {" pass", 0}, {" ", 0}, {"\t", 0}, {"\r", 0}, {"x", 0},
		{"ruler", 4}, {"rule", 4}, {"rule ", 5}, {"ru le", 2}, {"rul", 3}, {"splits .", 5}, {"split", 5}, {"spl", 3}, {"split\t.", 5}, {"mergee \"", 5}, {"merge", 5},
		{"names", 4}, {"nam\"e\"", 3}, {"beforehand", 6}, {"be", 2}, {"b", 1}, {"afterwards", 5}, {"a", 1}, {"ab", 1}, {"fretsaw 1", 0}, {"fretsaw", 0}, {"f", 0}, {"1", 0},
		{"!", 0}, {"->", 0}, {"\"", 0}, {"\x00", 0}, {"\xff", 0}, {"pass#", 4}, {"pass # more", 4},
	} {
		for _, behind := range []string{"", "\n", "\nsplit ."} {
			checkFails(t, ahead+x.line+behind, api.ErrSign, len(ahead)+x.at)
		}
	}
}

// P17.1: just one blank stands at each place where there is one, and none elsewhere.
func TestParseBlanks(t *testing.T) {
	for _, x := range []struct {
		line string
		at   int
	}{
		{`rule  "a" -> "b"`, 5}, {`rule "a"  -> "b"`, 9}, {`rule "a" ->  "b"`, 12}, {`rule "a" -> "b" `, 15}, {`rule "a"-> "b"`, 8}, {`rule "a" ->"b"`, 11}, {`rule "a" - > "b"`, 10}, {`rule"a" -> "b"`, 4}, {`rule "a" "b"`, 9}, {`rule "a" -> "b" "c"`, 15},
		{`merge  "a" "b"`, 6}, {`merge "a"  "b"`, 10}, {`merge "a" "b" `, 13}, {`merge "a""b"`, 9}, {`merge "a"`, 9}, {`merge "a" "b" "c"`, 13},
		{`name  "a"`, 5}, {`name "a" `, 8}, {`name "a"b`, 8}, {`name a`, 5}, {`name 'a'`, 5},
		{`before  "ab"`, 7}, {`before "ab" `, 11}, {`before "ab" "ab"`, 11}, {`before 0`, 7}, {`after  "ab"`, 6}, {`after "ab" `, 10}, {`after "ab""ab"`, 10},
		{"pass ", 4}, {"pass\t", 4}, {"pass\r", 4}, {"name \"a\"\r", 8}, {"name\t\"a\"", 4},
	} {
		for _, behind := range []string{"", "\n", "\nsplit ."} {
			checkFails(t, ahead+x.line+behind, api.ErrSign, len(ahead)+x.at)
		}
	}
	for _, s := range []string{"", " ", "  ", " a", "a ", " a ", "\t", "a\r", "\x00\xff", "#", "\"a\"", "a#"} {
		checkParse(t, head+"split "+s, api.Config{Split: tree(s)})
		checkParse(t, head+"split "+s+"\n", api.Config{Split: tree(s)})
	}
}

// checkQuoted asks for a name that stands between quotes, or for the place of a byte within them that can't stand there, counted from behind the first quote.
func checkQuoted(t *testing.T, inner, want string, wrong int) {
	t.Helper()
	text := head + "split .\nname \""
	for _, behind := range []string{"\"", "\"\n", "\"\nbefore \"" + inner + "\""} {
		c, e, at := config.Parse(text + inner + behind)
		switch {
		case wrong < 0 && (e != api.OK || at != 0 || !slices.Equal(c.Names, []string{want})):
			t.Errorf("name %q = %q, %d, %d; want %q", inner, c.Names, e, at, want)
		case wrong >= 0 && (e != api.ErrSign || at != len(text)+wrong || !nothing(c)):
			t.Errorf("name %q = %q, %d, %d; want %d", inner, c.Names, e, at, len(text)+wrong)
		}
		checkMeant(t, text+inner+behind)
	}
}

const right = -1 // there is no place at which something is wrong

// P17.1: bytes within quotes, as they are.
func TestParseBytesWithinQuotes(t *testing.T) {
	for b := range 256 {
		sign := string([]byte{byte(b)})
		switch {
		case b == '"':
			checkQuoted(t, "a"+sign+"c", "", 2)
		case b == '\\':
			checkQuoted(t, "a"+sign+"c", "", 2)
		case b < 32 || b > 126:
			checkQuoted(t, sign, "", 0)
			checkQuoted(t, "a"+sign+"c", "", 1)
			checkQuoted(t, `\"`+sign, "", 2)
		default:
			checkQuoted(t, sign, sign, right)
			checkQuoted(t, "a"+sign+"c", "a"+sign+"c", right)
		}
	}
	checkQuoted(t, "# -> name", "# -> name", right)
	checkQuoted(t, "\xc3\xa9", "", 0)
}

// P17.1: bytes within quotes, behind a \.
func TestParseEscapes(t *testing.T) {
	meaning := map[byte]string{'n': "\n", 't': "\t", 'r': "\r", '"': "\"", '\\': "\\"}
	for b := range 256 {
		sign := string([]byte{byte(b)})
		if want, is := meaning[byte(b)]; is {
			checkQuoted(t, `\`+sign, want, right)
			checkQuoted(t, `a\`+sign+"0", "a"+want+"0", right)
		} else if b != 'x' {
			checkQuoted(t, `\`+sign, "", 1)
			checkQuoted(t, `a\`+sign+"00", "", 2)
		}
		if strings.IndexByte("0123456789abcdefABCDEF", byte(b)) < 0 {
			checkQuoted(t, `\x`+sign+"0", "", 2)
			checkQuoted(t, `\x0`+sign, "", 3)
		}
		for _, form := range []string{`\x%02x`, `\x%02X`} {
			checkQuoted(t, fmt.Sprintf(form, b), sign, right)
			checkQuoted(t, fmt.Sprintf("a"+form+"0", b), "a"+sign+"0", right)
		}
	}
	checkQuoted(t, `\xaF\xFa`, "\xaf\xfa", right)
	checkQuoted(t, `\\x41`, `\x41`, right)
	checkQuoted(t, `\x`, "", 2)
	checkQuoted(t, `\x4`, "", 3)
	checkQuoted(t, `\x411`, "A1", right)
	checkQuoted(t, `\X41`, "", 1)
	checkQuoted(t, `\0`, "", 1)
	for _, s := range []string{`"`, `"\`, `"\x`, `"\x4`, `"\x41`} { // the line's end is a byte that can't stand there
		checkFails(t, head+"name "+s, api.ErrSign, 15+len(s))
		checkFails(t, head+"name "+s+"\n\"", api.ErrSign, 15+len(s))
	}
}

// P17.1: rules need a pass, and passes have a bound.
func TestParsePasses(t *testing.T) {
	checkFails(t, head+`rule "a" -> "b"`, api.ErrConfig, 10)
	checkFails(t, head+"split .\n\n"+`rule "a" -> "b"`+"\npass\n", api.ErrConfig, 19)
	four := head + strings.Repeat("pass\n", 4)
	checkParse(t, four+"split .", api.Config{Passes: make([][]api.Rule, 4), Split: tree(".")})
	checkFails(t, four+"pass", api.ErrConfig, len(four))
	checkFails(t, four+"split .\npass\npass\nsplit (", api.ErrConfig, len(four)+8)
	checkParse(t, four+"split .\n"+`rule "a" -> "b"`, api.Config{Passes: [][]api.Rule{3: {{From: "a", To: "b"}}}, Split: tree(".")})
}

// P17.1: there is one split; its expression's error is told where it stands.
func TestParseSplits(t *testing.T) {
	checkFails(t, head+"split .\nsplit .", api.ErrConfig, 18)
	checkFails(t, head+"split \nsplit \n", api.ErrConfig, 17)
	checkFails(t, head+"split .\n#\nsplit (", api.ErrConfig, 20)
	for _, x := range []struct {
		s  string
		e  api.Errno
		at int
	}{
		{"a)", api.ErrRegex, 1}, {"(a", api.ErrRegex, 2}, {"[b-a]", api.ErrRegex, 3}, {"a{21}", api.ErrRegex, 2}, {"*", api.ErrRegex, 0}, {"\\", api.ErrRegex, 1}, {" (", api.ErrRegex, 2},
		{strings.Repeat("a", 513), api.ErrLong, 0}, {strings.Repeat("(", 31), api.ErrLong, 30}, {strings.Repeat("(", 30), api.ErrRegex, 30},
		{"a" + strings.Repeat("{2}", 30), api.ErrLong, 0}, {strings.Repeat("*", 600), api.ErrLong, 0},
	} {
		for _, before := range []string{head, head + "#\n\n", ahead} {
			for _, behind := range []string{"", "\n", "\nsplit .", "\npas"} {
				checkFails(t, before+"split "+x.s+behind, x.e, len(before)+6+x.at)
			}
		}
	}
	for _, s := range []string{strings.Repeat("a", 499), "a" + strings.Repeat("?", 29), strings.Repeat("(", 30) + strings.Repeat(")", 30)} {
		checkParse(t, head+"split "+s, api.Config{Split: tree(s)})
	}
}

// P17.1: merges are of bytes, and of what merges ahead of them make.
func TestParseMerges(t *testing.T) {
	begin := head + "split .\n"
	for _, x := range []struct {
		line string
		at   int
	}{
		{`merge "ab" "c"`, 6}, {`merge "c" "ab"`, 10}, {`merge "ab" "cd"`, 6}, {`merge "" "c"`, 6}, {`merge "c" ""`, 10}, {`merge "" ""`, 6}, {`merge "\x61b" "c"`, 6}, {`merge "\x61" "bc"`, 13}, {`merge "\xff" "\xff\xff"`, 13}, {`merge "abc" "abc"`, 6},
	} {
		checkFails(t, begin+x.line, api.ErrName, len(begin)+x.at)
		checkFails(t, begin+x.line+"\n"+`merge "a" "b"`+"\nx", api.ErrName, len(begin)+x.at)
		checkFails(t, begin+"name \"ab\"\n"+x.line, api.ErrName, len(begin)+10+x.at)
	}
	checkFails(t, begin+lined(`merge "a" "b"/merge "b" "c"/merge "ab" "c"/merge "abcd" "a"`), api.ErrName, len(begin)+49)
	checkFails(t, begin+lined(`merge "a" "b"/merge "ab" "abc"`), api.ErrName, len(begin)+25)
	checkFails(t, begin+`merge "a" "aa"`, api.ErrName, len(begin)+10) // what it makes itself is not there yet
	checkParse(t, begin+lined(`merge "a" "b"/merge "b" "c"/merge "ab" "c"/merge "abc" "bc"/merge "\"" "\\"`), api.Config{
		Split:  tree("."),
		Merges: []api.Merge{{Left: 97, Right: 98}, {Left: 98, Right: 99}, {Left: 256, Right: 99}, {Left: 258, Right: 257}, {Left: 34, Right: 92}},
	})
	all, ids := begin, []api.Merge{}
	for b := range 256 {
		all += fmt.Sprintf("merge \"\\x%02x\" \"\\x%02X\"\n", b, 255-b)
		ids = append(ids, api.Merge{Left: b, Right: 255 - b})
	}
	checkParse(t, all, api.Config{Split: tree("."), Merges: ids})
}

// P17.1: what stands before and after is names that are there already.
func TestParseFrames(t *testing.T) {
	begin := head + "split .\nname \"a\"\nname \"bc\"\n"
	for _, word := range []string{"before", "after"} {
		for _, name := range []string{`"b"`, `""`, `"abc"`, `"A"`, `"bc "`, `"\x00"`} {
			line := word + " " + name
			checkFails(t, begin+line, api.ErrName, len(begin)+len(word)+1)
			checkFails(t, begin+line+"\nname "+name, api.ErrName, len(begin)+len(word)+1)
			checkFails(t, head+line, api.ErrName, 10+len(word)+1)
		}
		want := api.Config{Split: tree("."), Names: []string{"a", "bc"}}
		list := []int{1, 0, 0, 1}
		if word == "before" {
			want.Before = list
		} else {
			want.After = list
		}
		checkParse(t, begin+strings.ReplaceAll(lined(`W "b\x63"/W "a"/W "a"/W "bc"`), "W", word), want)
	}
	checkFails(t, begin+lined(`merge "a" "b"/before "ab"`), api.ErrName, len(begin)+21)
}

// P17.1: what only all lines tell is told at the end's place, and behind each line's own errors.
func TestParseEnds(t *testing.T) {
	checkFails(t, ahead, api.ErrConfig, len(ahead))
	checkFails(t, ahead+"\n#", api.ErrConfig, len(ahead)+2)
	rules := func(many int) (s string) {
		for i := range many {
			s += fmt.Sprintf("rule \"%d\" -> \"\"\n", i)
		}
		return s
	}
	names := func(many int) (s string) {
		for i := range many {
			s += fmt.Sprintf("name \"%d\"\n", i)
		}
		return s
	}
	merges := func(many int) (s string) {
		for i := range many {
			s += fmt.Sprintf("merge \"\\x%02x\" \"\\x%02x\"\n", i%256, i/256)
		}
		return s
	}
	doubles := func(times int) (s string) {
		for i := range times {
			half := strings.Repeat("a", 1<<i)
			s += "merge \"" + half + "\" \"" + half + "\"\n"
		}
		return s
	}
	grow := func(to int) string { return "pass\nrule \"a\" -> \"" + strings.Repeat("b", to) + "\"\n" }
	for _, x := range []struct {
		lines string
		e     api.Errno
	}{
		{"pass\n" + rules(64), api.OK}, {"pass\n" + rules(65), api.ErrLong}, {"pass\nrule \"\" -> \"a\"\n", api.ErrRule},
		{"pass\nrule \"a\" -> \"a\"\nrule \"\\x61\" -> \"b\"\n", api.ErrRule}, {"pass\nrule \"a\" -> \"a\"\npass\nrule \"a\" -> \"b\"\n", api.OK},
		{"pass\nrule \"aaaaaaaaaaaaaaaa\" -> \"\"\n", api.OK}, {"pass\nrule \"aaaaaaaaaaaaaaaaa\" -> \"\"\n", api.ErrRule},
		{grow(32), api.OK}, {grow(33), api.ErrRule}, {grow(8) + grow(4), api.OK}, {grow(11) + grow(3), api.ErrConfig}, {grow(32) + grow(2), api.ErrConfig}, {grow(32) + grow(1), api.OK},
		{names(64), api.OK}, {names(65), api.ErrConfig}, {"name \"\"\n", api.ErrConfig}, {"name \"a\"\nname \"a\"\n", api.ErrConfig}, {"name \"a\"\nname \"\\x61\"\nbefore \"a\"\n", api.ErrConfig},
		{"name \"" + strings.Repeat("a", 32) + "\"\n", api.OK}, {"name \"" + strings.Repeat("a", 33) + "\"\n", api.ErrConfig}, {"name \"\"\nbefore \"\"\n", api.ErrConfig},
		{names(1) + strings.Repeat("before \"0\"\n", 32), api.OK}, {names(1) + strings.Repeat("before \"0\"\n", 33), api.ErrConfig},
		{names(1) + strings.Repeat("after \"0\"\n", 32), api.OK}, {names(1) + strings.Repeat("after \"0\"\n", 33), api.ErrConfig},
		{merges(1024), api.OK}, {merges(1025), api.ErrLong}, {"merge \"a\" \"a\"\nmerge \"\\x61\" \"a\"\n", api.ErrMerge}, {doubles(6), api.OK}, {doubles(7), api.ErrMerge}, {doubles(9), api.ErrMerge},
	} {
		for _, s := range []string{head + "split .\n" + x.lines, head + x.lines + "split .", head + x.lines + "split .\n#\n"} {
			if x.e != api.OK {
				checkFails(t, s, x.e, len(s))
			} else if _, e, at := config.Parse(s); e != api.OK || at != 0 {
				t.Errorf("Parse(%s) = %d, %d", showText(s), e, at)
			}
			checkFails(t, s+"\nx", api.ErrSign, len(s)+1)
			checkFails(t, s+"\nsplit .", api.ErrConfig, len(s)+1)
			checkFails(t, s+"\nbefore \"no\"", api.ErrName, len(s)+8)
		}
		checkFails(t, head+x.lines, api.ErrConfig, len(head+x.lines))
	}
	for _, x := range []struct {
		s string
		e api.Errno
	}{
		{strings.Repeat("a", 499), api.OK}, {strings.Repeat("a", 500), api.ErrConfig}, {"(a{20}){20}", api.OK}, {"((a{20}){20}){2}", api.ErrConfig},
		{strings.Repeat("|", 498), api.OK}, {strings.Repeat("|", 499), api.ErrConfig}, {strings.Repeat("|", 510), api.ErrConfig}, {strings.Repeat("|", 511), api.ErrLong}, {strings.Repeat("|", 512), api.ErrLong},
	} {
		s := head + "split " + x.s
		if x.e == api.OK {
			checkParse(t, s, api.Config{Split: tree(x.s)})
		} else {
			checkFails(t, s, x.e, len(s))
			checkFails(t, s+"\n", x.e, len(s)+1)
		}
	}
}

// P17.1: of two errors the first one counts: that of the line ahead, and within a line a byte that can't stand there.
func TestParseTwoErrors(t *testing.T) {
	lines := []struct {
		line string
		e    api.Errno
		at   int
	}{
		{"pass x", api.ErrSign, 4}, {"rule \"a\"", api.ErrSign, 8}, {"split", api.ErrSign, 5}, {"rul", api.ErrSign, 3}, {"split [", api.ErrRegex, 7}, {"split " + strings.Repeat("a", 513), api.ErrLong, 6},
		{`merge "aa" "b"`, api.ErrName, 6}, {`merge "b" "aa"`, api.ErrName, 10}, {`before "x"`, api.ErrName, 7}, {`after "x"`, api.ErrName, 6}, {`rule "a" -> "b"`, api.ErrConfig, 0},
	}
	for _, first := range lines {
		for _, second := range lines {
			checkFails(t, head+first.line+"\n"+second.line, first.e, 10+first.at)
		}
		checkFails(t, head+"name \"\"\n"+first.line, first.e, 18+first.at)
	}
	checkFails(t, head+`rule "a" -> "b`, api.ErrSign, 24)
	checkFails(t, head+`rule "a" -> "b" `, api.ErrSign, 25)
	checkFails(t, head+`rule "\a" -> "b"`, api.ErrSign, 17)
	checkFails(t, head+strings.Repeat("pass\n", 4)+"pass ", api.ErrSign, 34)
	checkFails(t, head+"split .\nsplit", api.ErrSign, 23)
	checkFails(t, head+"split .\nsplit (", api.ErrConfig, 18)
	checkFails(t, head+`merge "ab" "b`, api.ErrSign, 23)
	checkFails(t, head+`merge "ab" "ab" `, api.ErrSign, 25)
	checkFails(t, head+`before "a`, api.ErrSign, 19)
	checkFails(t, head+`before "a" `, api.ErrSign, 20)
	checkFails(t, head+`after "\y"`, api.ErrSign, 18)
	checkFails(t, "fretsaw 2\nsplit (", api.ErrSign, 8)
	checkFails(t, head+"name \"\"\nbefore \"\"\nafter \"a\"", api.ErrName, 34)
}

// P17.1: a text has at most MaxConfig bytes.
func TestParseLong(t *testing.T) {
	begin := head + "split .\n#"
	most := begin + strings.Repeat("x", 65536-len(begin))
	checkParse(t, most, api.Config{Split: tree(".")})
	checkFails(t, most+"x", api.ErrLong, 0)
	checkFails(t, most+"\n", api.ErrLong, 0)
	checkFails(t, most[:65535]+"\nx", api.ErrLong, 0)
	checkParse(t, most[:65535]+"\n", api.Config{Split: tree(".")})
	checkFails(t, most[:65534]+"\nx", api.ErrSign, 65535)
	checkFails(t, strings.Repeat("\n", 65537), api.ErrLong, 0)
	checkFails(t, strings.Repeat("\n", 65536), api.ErrSign, 0)
	checkFails(t, head+strings.Repeat("\n", 65526), api.ErrConfig, 65536)
	long := head + "name \"" + strings.Repeat("a", 65519)
	checkFails(t, long, api.ErrSign, 65535)
	checkFails(t, long+`"`, api.ErrConfig, 65536)
}

// P17.1: texts by the chapter's words, and ones with something changed.
func TestParseDrawn(t *testing.T) {
	for n := range uint64(8) {
		t.Run("", func(t *testing.T) {
			t.Parallel()
			found := map[api.Errno]int{}
			for i := range uint64(500) {
				d := dice(1000*n + i)
				c := drawn(d)
				split := expression(d)
				c.Split = tree(split)
				s := looseText(d, c, split)
				checkParse(t, s, c)
				for range 4 {
					s = harmed(d, s)
					checkMeant(t, s)
					_, e, _ := config.Parse(s)
					found[e]++
					if s == "" {
						break
					}
				}
			}
			for _, e := range []api.Errno{api.OK, api.ErrRegex, api.ErrRule, api.ErrMerge, api.ErrSign, api.ErrName, api.ErrConfig} {
				if found[e] == 0 {
					t.Error("no text was drawn that tells", e)
				}
			}
		})
	}
}
