package config_test

import (
	"fmt"
	"math/big"
	"math/rand/v2"
	"regexp"
	"slices"
	"sort"
	"strconv"
	"strings"

	"fretsaw/api"
	"fretsaw/merge"
	"fretsaw/regex"
	"fretsaw/rule"
)

// This file holds the chapter's words once more, in other ways than the program has them, and makes the configurations and the texts that are tried.

// The limits, as the chapter tells them.
const (
	mostPasses = 4
	mostNames  = 64
	mostName   = 32
	mostFrame  = 32
	mostText   = 65536
	mostGrow   = 32
	mostSize   = 1000
)

const quotedForm = `"(?:[ !#-\[\]-~]|\\["\\ntr]|\\x[0-9a-fA-F]{2})*"`

var (
	quotedText = regexp.MustCompile(quotedForm)
	firstForm  = regexp.MustCompile(`\Afretsaw 1\z`)
	otherForm  = regexp.MustCompile(strings.ReplaceAll(`\A(?:pass|rule Q -> Q|split [^\n]*|merge Q Q|name Q|before Q|after Q|#[^\n]*|)\z`, "Q", quotedForm))
	firstEnds  = endings("fretsaw 1")
	otherEnds  = endings("pass", `rule "\x00" -> "\x00"`, "split ", `merge "\x00" "\x00"`, `name "\x00"`, `before "\x00"`, `after "\x00"`)
)

// endings is all ends of these texts: what begins a line becomes one by one of them.
func endings(texts ...string) (l []string) {
	for _, s := range texts {
		for i := range len(s) + 1 {
			l = append(l, s[i:])
		}
	}
	slices.Sort(l)
	return slices.Compact(l)
}

// meantSign is the place of the first byte of a line that can't stand there, -1 if there is none: ahead of it stands the longest beginning of a line.
func meantSign(line string, first bool) int {
	form, ends := otherForm, otherEnds
	if first {
		form, ends = firstForm, firstEnds
	}
	if form.MatchString(line) {
		return -1
	}
	return sort.Search(len(line), func(n int) bool {
		return !slices.ContainsFunc(ends, func(end string) bool { return form.MatchString(line[:n+1] + end) })
	})
}

// meantBytes is what a quoted text means.
func meantBytes(quoted string) string {
	inner := quoted[1 : len(quoted)-1]
	return regexp.MustCompile(`\\(?:x..|.)`).ReplaceAllStringFunc(inner, func(s string) string {
		switch s[1:] {
		case "n":
			return "\n"
		case "t":
			return "\t"
		case "r":
			return "\r"
		case `"`, `\`:
			return s[1:]
		}
		b, _ := strconv.ParseUint(s[2:], 16, 8)
		return string([]byte{byte(b)})
	})
}

// textOf is an id's text, whatever merges may be.
func textOf(l []api.Merge, id int) string {
	if id < 256 {
		return string([]byte{byte(id)})
	}
	return textOf(l, l[id-256].Left) + textOf(l, l[id-256].Right)
}

// idOf is the first id that has a text, -1 if there is none.
func idOf(l []api.Merge, text string) int {
	for id := range 256 + len(l) {
		if textOf(l, id) == text {
			return id
		}
	}
	return -1
}

// meantLine puts one more line to a configuration; or tells the error, and its place in the line.
func meantLine(c *api.Config, line string, splits *int) (api.Errno, int) {
	word, rest, _ := strings.Cut(line, " ")
	at := quotedText.FindAllStringIndex(line, -1)
	part := func(i int) string { return meantBytes(line[at[i][0]:at[i][1]]) }
	switch word {
	case "pass":
		if len(c.Passes) >= mostPasses {
			return api.ErrConfig, 0
		}
		c.Passes = append(c.Passes, []api.Rule{})
	case "rule":
		if len(c.Passes) == 0 {
			return api.ErrConfig, 0
		}
		pass := &c.Passes[len(c.Passes)-1]
		*pass = append(*pass, api.Rule{From: part(0), To: part(1)})
	case "split":
		if *splits > 0 {
			return api.ErrConfig, 0
		}
		*splits++
		tree, e, wrong := regex.Parse(rest)
		if e != api.OK {
			return e, len("split ") + wrong
		}
		c.Split = tree
	case "merge":
		ids := [2]int{}
		for i := range ids {
			if ids[i] = idOf(c.Merges, part(i)); ids[i] < 0 {
				return api.ErrName, at[i][0]
			}
		}
		c.Merges = append(c.Merges, api.Merge{Left: ids[0], Right: ids[1]})
	case "name":
		c.Names = append(c.Names, part(0))
	case "before", "after":
		number := slices.Index(c.Names, part(0))
		if number < 0 {
			return api.ErrName, at[0][0]
		}
		if word == "before" {
			c.Before = append(c.Before, number)
		} else {
			c.After = append(c.After, number)
		}
	}
	return api.OK, 0
}

func meantParse(s string) (api.Config, api.Errno, int) {
	if len(s) > mostText {
		return api.Config{}, api.ErrLong, 0
	}
	var c api.Config
	splits, at := 0, 0
	for i, line := range slices.Collect(strings.Lines(s)) {
		body := strings.TrimSuffix(line, "\n")
		if wrong := meantSign(body, i == 0); wrong >= 0 {
			return api.Config{}, api.ErrSign, at + wrong
		}
		if i > 0 && !strings.HasPrefix(body, "#") {
			if e, wrong := meantLine(&c, body, &splits); e != api.OK {
				return api.Config{}, e, at + wrong
			}
		}
		at += len(line)
	}
	e := meantRight(c)
	switch {
	case s == "":
		e = api.ErrSign
	case splits == 0:
		e = api.ErrConfig
	}
	if e != api.OK {
		return api.Config{}, e, len(s)
	}
	return c, api.OK, 0
}

// meantSize is the SIZE, in numbers that have room for it.
func meantSize(t api.Re) *big.Int {
	two, sum := big.NewInt(2), big.NewInt(0)
	for _, kid := range t.Kids {
		sum.Add(sum, meantSize(kid))
	}
	switch t.Kind {
	case api.RCat, api.RAlt:
		return two.Add(two, sum)
	case api.RRep:
		times := 1
		for _, n := range []int{t.Min, t.Max} {
			if n > times {
				times = n
			}
		}
		return two.Add(two, sum.Mul(sum, big.NewInt(int64(times))))
	}
	return two
}

// meantRight is the errors, listed in their order; the first one that applies counts.
func meantRight(c api.Config) api.Errno {
	var found []api.Errno
	holds := func(e api.Errno, applies bool) {
		if applies {
			found = append(found, e)
		}
	}
	holds(api.ErrConfig, len(c.Passes) > mostPasses)
	product := big.NewInt(1)
	for _, l := range c.Passes[:min(len(c.Passes), mostPasses)] {
		e := rule.Right(l)
		holds(e, e != api.OK)
		grow, _ := rule.Grow(l)
		product.Mul(product, big.NewInt(int64(grow)))
	}
	holds(api.ErrConfig, product.Cmp(big.NewInt(mostGrow)) > 0)
	e := regex.Right(c.Split)
	holds(e, e != api.OK)
	holds(api.ErrConfig, e == api.OK && meantSize(c.Split).Cmp(big.NewInt(mostSize)) > 0)
	e = merge.Right(c.Merges)
	holds(e, e != api.OK)
	holds(api.ErrConfig, !meantNames(c.Names))
	for _, n := range slices.Concat(c.Before, c.After) {
		holds(api.ErrConfig, n < 0 || n > len(c.Names)-1)
	}
	holds(api.ErrConfig, len(c.Before) > mostFrame)
	holds(api.ErrConfig, len(c.After) > mostFrame)
	return append(found, api.OK)[0]
}

func meantNames(l []string) bool {
	sorted := slices.Sorted(slices.Values(l))
	for _, name := range l {
		if len(name) < 1 || len(name) > mostName {
			return false
		}
	}
	return len(l) <= mostNames && len(slices.Compact(sorted)) == len(l)
}

// meantQuotes is a text as Print writes it between quotes.
func meantQuotes(s string) string {
	short := map[byte]string{'"': `\"`, '\\': `\\`, 10: `\n`, 9: `\t`, 13: `\r`}
	out := `"`
	for i := range len(s) {
		if text, is := short[s[i]]; is {
			out += text
		} else if s[i] >= 32 && s[i] <= 126 {
			out += s[i : i+1]
		} else {
			out += fmt.Sprintf(`\x%02x`, s[i])
		}
	}
	return out + `"`
}

// meantLines is what is printed of a configuration whose Split has this text, however long.
func meantLines(c api.Config, split string) string {
	var out strings.Builder
	q := meantQuotes
	fmt.Fprintln(&out, "fretsaw 1")
	for _, l := range c.Passes {
		fmt.Fprintln(&out, "pass")
		for _, r := range l {
			fmt.Fprintf(&out, "rule %s -> %s\n", q(r.From), q(r.To))
		}
	}
	fmt.Fprintf(&out, "split %s\n", split)
	for _, m := range c.Merges {
		fmt.Fprintf(&out, "merge %s %s\n", q(textOf(c.Merges, m.Left)), q(textOf(c.Merges, m.Right)))
	}
	for _, name := range c.Names {
		fmt.Fprintf(&out, "name %s\n", q(name))
	}
	for _, n := range c.Before {
		fmt.Fprintf(&out, "before %s\n", q(c.Names[n]))
	}
	for _, n := range c.After {
		fmt.Fprintf(&out, "after %s\n", q(c.Names[n]))
	}
	return out.String()
}

func meantPrint(c api.Config) (string, api.Errno) {
	if e := meantRight(c); e != api.OK {
		return "", e
	}
	split, e := regex.Print(c.Split)
	if e != api.OK {
		return "", e
	}
	if s := meantLines(c, split); len(s) <= mostText {
		return s, api.OK
	}
	return "", api.ErrLong
}

// dice throws numbers, the same ones for the same n.
func dice(n uint64) *rand.Rand {
	return rand.New(rand.NewPCG(n, 17))
}

// one draws one of these.
func one[E any](d *rand.Rand, l ...E) E { return l[d.IntN(len(l))] }

// text draws one of so many bytes, most of them out of a few.
func text(d *rand.Rand, many int) string {
	s := make([]byte, many)
	for i := range s {
		s[i] = one(d, []byte("ab\"\\ ~\n\t\r\x00\x1f\x7f\xff#nx")...)
		if d.IntN(4) == 0 {
			s[i] = byte(d.IntN(256))
		}
	}
	return string(s)
}

// tree reads an expression.
func tree(s string) api.Re {
	t, e, at := regex.Parse(s)
	if e != api.OK {
		panic(fmt.Sprint(s, e, at))
	}
	return t
}

// expression draws one that may be; it may be written in more bytes than what is printed of it, or in fewer.
func expression(d *rand.Rand) string {
	s := one(d, "", ".", "[a-z]+", " ?[a-z]+| +", "\\x0a", "a{20}", "(ab|c){2,3}", "[^\\x00-\\xff]", "#", "\"", "a|", "\\d{1,3}", "-", "\xff", "\r")
	for range d.IntN(3) {
		s = one(d, "("+s+")*", s+"|[0-9]", s+" ", "x"+s)
	}
	return s
}

func drawnRules(d *rand.Rand) (l []api.Rule) {
	froms := map[string]bool{}
	for range d.IntN(5) {
		from := text(d, 1+d.IntN(one(d, 2, 16)))
		if !froms[from] {
			l = append(l, api.Rule{From: from, To: text(d, d.IntN(one(d, 2*len(from), 4, 33)))})
		}
		froms[from] = true
	}
	return l
}

func drawnMerges(d *rand.Rand) (l []api.Merge) {
	for range d.IntN(12) {
		m := api.Merge{Left: d.IntN(256 + len(l)), Right: int(one(d, []byte("ab\"\\\n")...))}
		if d.IntN(3) > 0 {
			m = api.Merge{Left: one(d, 97, 98), Right: one(d, 97, 255+len(l))}
		}
		if more := append(l, m); merge.Right(more) == api.OK {
			l = more
		}
	}
	return l
}

// drawn is a configuration that may be.
func drawn(d *rand.Rand) (c api.Config) {
	for range d.IntN(5) {
		c.Passes = append(c.Passes, drawnRules(d))
	}
	c.Split = tree(expression(d))
	c.Merges = drawnMerges(d)
	for range d.IntN(6) {
		if name := text(d, 1+d.IntN(one(d, 3, 32))); !slices.Contains(c.Names, name) {
			c.Names = append(c.Names, name)
		}
	}
	for range d.IntN(4) * min(len(c.Names), 1) {
		c.Before = append(c.Before, d.IntN(len(c.Names)))
		c.After = append(c.After, d.IntN(len(c.Names)))
	}
	if d.IntN(2) == 0 {
		c.Before = nil
	}
	if meantRight(c) != api.OK { // too many bytes of one
		c.Passes = nil
	}
	return c
}

// loose is a text between quotes, its bytes written in any way that means them.
func loose(d *rand.Rand, s string) string {
	out := ""
	for i := range len(s) {
		plain := meantQuotes(s[i : i+1])
		out += one(d, plain[1:len(plain)-1], fmt.Sprintf("\\x%02x", s[i]), fmt.Sprintf("\\x%02X", s[i]))
	}
	return `"` + out + `"`
}

// looseLines is the lines of a configuration, but the first one, each kind of them in its order, the kinds in some order in which they may stand.
func looseLines(d *rand.Rand, c api.Config, split string) (lines []string) {
	var passes, merges, names []string
	for _, l := range c.Passes {
		passes = append(passes, "pass")
		for _, r := range l {
			passes = append(passes, "rule "+loose(d, r.From)+" -> "+loose(d, r.To))
		}
	}
	for _, m := range c.Merges {
		merges = append(merges, "merge "+loose(d, textOf(c.Merges, m.Left))+" "+loose(d, textOf(c.Merges, m.Right)))
	}
	for _, name := range c.Names {
		names = append(names, "name "+loose(d, name))
	}
	for _, n := range c.Before {
		names = append(names, "before "+loose(d, c.Names[n]))
	}
	for _, n := range c.After {
		names = append(names, "after "+loose(d, c.Names[n]))
	}
	kinds := [][]string{passes, merges, names, {"split " + split}, slices.Repeat([]string{"", "#", "# pass\x00\xff"}, d.IntN(2))}
	for len(kinds) > 0 {
		i := d.IntN(len(kinds))
		if len(kinds[i]) == 0 {
			kinds = slices.Delete(kinds, i, i+1)
			continue
		}
		lines = append(lines, kinds[i][0])
		kinds[i] = kinds[i][1:]
	}
	return lines
}

// looseText is a configuration's text, as someone may write it.
func looseText(d *rand.Rand, c api.Config, split string) string {
	return "fretsaw 1\n" + strings.Join(looseLines(d, c, split), "\n") + one(d, "", "\n")
}

// harmed is a text with something changed, in a line or of whole lines; what was changed may mean the same.
func harmed(d *rand.Rand, s string) string {
	lines := strings.SplitAfter(s, "\n")
	i, j, at := d.IntN(len(lines)), d.IntN(len(lines)), d.IntN(len(s))
	switch d.IntN(8) {
	case 0:
		lines[i], lines[j] = lines[j], lines[i]
	case 1:
		lines[i] += lines[j]
	case 2:
		lines[i] = ""
	case 3:
		return s[:at]
	case 4:
		return s[:at] + s[at+1:]
	case 5:
		return s[:at] + text(d, 1) + s[at:]
	case 6:
		return s[:at] + one(d, "\"", " ", "\\", "\n", "#", "f", "x", "0") + s[at+1:]
	case 7:
		lines[i] = one(d, "pass", "rule \"a\" -> \"\"", "split a", "merge \"a\" \"b\"", "name \"\"", "name \"a\"", "before \"a\"", "after \"b\"", "fretsaw 1", "split (") + "\n" + lines[i]
	}
	return strings.Join(lines, "")
}

// sameTree tells whether two trees are; a nil list counts as an empty one.
func sameTree(a, b api.Re) bool {
	return a.Kind == b.Kind && a.Set == b.Set && a.Min == b.Min && a.Max == b.Max && slices.EqualFunc(a.Kids, b.Kids, sameTree)
}

// same tells whether two configurations are.
func same(a, b api.Config) bool {
	return slices.EqualFunc(a.Passes, b.Passes, slices.Equal) && sameTree(a.Split, b.Split) && slices.Equal(a.Merges, b.Merges) &&
		slices.Equal(a.Names, b.Names) && slices.Equal(a.Before, b.Before) && slices.Equal(a.After, b.After)
}

// nothing tells whether a configuration is the zero value.
func nothing(c api.Config) bool { return same(c, api.Config{}) }

func copiedTree(t api.Re) api.Re {
	t.Kids = slices.Clone(t.Kids)
	for i := range t.Kids {
		t.Kids[i] = copiedTree(t.Kids[i])
	}
	return t
}

// copied is a configuration in memory of its own.
func copied(c api.Config) api.Config {
	c.Passes = slices.Clone(c.Passes)
	for i := range c.Passes {
		c.Passes[i] = slices.Clone(c.Passes[i])
	}
	c.Split = copiedTree(c.Split)
	c.Merges, c.Names = slices.Clone(c.Merges), slices.Clone(c.Names)
	c.Before, c.After = slices.Clone(c.Before), slices.Clone(c.After)
	return c
}

// show writes a configuration, but not all of a long one.
func show(c api.Config) string { return fmt.Sprintf("%.600s", fmt.Sprintf("%+q", fmt.Sprint(c))) }

// showText writes a text, but not all of a long one.
func showText(s string) string {
	if len(s) > 400 {
		return fmt.Sprintf("%q .. of %d", s[:400], len(s))
	}
	return strconv.Quote(s)
}
