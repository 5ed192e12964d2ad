package config

import (
	"strings"

	"fretsaw/api"
	"fretsaw/merge"
	"fretsaw/regex"
)

// Print writes a configuration.
func Print(c api.Config) (string, api.Errno) {
	if e := Right(c); e != api.OK {
		return "", e
	}
	split, e := regex.Print(c.Split)
	if e != api.OK {
		return "", e
	}
	text := written(c, split)
	if len(text) > api.MaxConfig {
		return "", api.ErrLong
	}
	return text, api.OK
}

// written is the lines of a configuration that may be, whose Split has this text.
func written(c api.Config, split string) string {
	var w writer
	w.line(headLine)
	w.passes(c.Passes)
	w.line(splitWord, split)
	w.merges(c.Merges)
	for _, name := range c.Names {
		w.line(nameWord, quotes(name))
	}
	for _, n := range c.Before {
		w.line(beforeWord, quotes(c.Names[n]))
	}
	for _, n := range c.After {
		w.line(afterWord, quotes(c.Names[n]))
	}
	return w.String()
}

// writer writes lines.
type writer struct{ strings.Builder }

// line writes one, with a blank between its parts.
func (w *writer) line(parts ...string) {
	w.WriteString(strings.Join(parts, blank))
	w.WriteByte('\n')
}

func (w *writer) passes(l [][]api.Rule) {
	for _, rules := range l {
		w.line(passWord)
		for _, r := range rules {
			w.line(ruleWord, quotes(r.From), arrow, quotes(r.To))
		}
	}
}

// merges asks for no error, since the merges may be.
func (w *writer) merges(l []api.Merge) {
	texts, _ := merge.Texts(l)
	for _, m := range l {
		w.line(mergeWord, quotes(texts[m.Left]), quotes(texts[m.Right]))
	}
}

// quotes is a text as it stands between quotes, with these.
func quotes(s string) string {
	var w strings.Builder
	w.WriteString(quote)
	for i := range len(s) {
		w.WriteString(letter(s[i]))
	}
	w.WriteString(quote)
	return w.String()
}

func letter(b byte) string {
	switch b {
	case '"', '\\':
		return escape + string([]byte{b})
	case '\n':
		return `\n`
	case '\t':
		return `\t`
	case '\r':
		return `\r`
	}
	if plain(b) {
		return string([]byte{b})
	}
	return `\x` + string([]byte{hexDigits[b>>4], hexDigits[b&15]})
}
