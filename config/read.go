package config

import (
	"strings"

	"fretsaw/api"
	"fretsaw/regex"
)

const bytes = 256 // ids that are bytes: the merge number k makes the id bytes + k

// fault is the error with which reading is given up, and its place.
type fault struct {
	e  api.Errno
	at int
}

// Parse reads a configuration; or the error, and its place.
func Parse(s string) (api.Config, api.Errno, int) {
	c, f := read(s)
	return c, f.e, f.at
}

// read reads all of a text, from the left, so that the first fault is the one that it is given up with. A panic that is no fault would be this program's own mistake, which must not pass for an answer.
func read(s string) (c api.Config, f fault) {
	defer func() {
		told := recover()
		if given, ok := told.(fault); ok {
			f = given
		} else if told != nil {
			panic(told)
		}
	}()
	return whole(s), fault{}
}

func whole(s string) api.Config {
	if len(s) > api.MaxConfig {
		panic(fault{api.ErrLong, 0})
	}
	r := newReader()
	for at := 0; at < len(s); {
		l := lineAt(s, at)
		r.line(l)
		at = len(l.s) + 1 // behind the byte 10
	}
	r.finish(len(s))
	return r.c
}

// lineAt is the line that begins at a place.
func lineAt(s string, at int) *line {
	end := len(s)
	if n := strings.IndexByte(s[at:], '\n'); n >= 0 {
		end = at + n
	}
	return &line{s: s[:end], begin: at, at: at}
}

// reader makes a configuration of lines, one after the other.
type reader struct {
	c     api.Config
	lines int            // that were read
	split bool           // whether there was one
	ids   map[string]int // by their texts
	names map[string]int // the names' numbers
	kinds map[string]func(*reader, *line)
}

func newReader() *reader {
	r := &reader{ids: make(map[string]int), names: make(map[string]int), kinds: kinds()}
	for b := range bytes {
		r.ids[string([]byte{byte(b)})] = b
	}
	return r
}

// kinds is the functions that read a line behind its first word. Each of them reads all of the line ahead of asking what it means, since a byte that can't stand there is told first.
func kinds() map[string]func(*reader, *line) {
	return map[string]func(*reader, *line){
		passWord:   (*reader).pass,
		ruleWord:   (*reader).rule,
		splitWord:  (*reader).splitting,
		mergeWord:  (*reader).merge,
		nameWord:   (*reader).name,
		beforeWord: (*reader).before,
		afterWord:  (*reader).after,
	}
}

func (r *reader) line(l *line) {
	r.lines++
	switch {
	case r.lines == 1:
		l.take(headLine)
		l.end()
	case l.rest() != "" && !l.sees(remark):
		r.word(l)(r, l)
	}
}

// word takes a line's first word, and is the function that reads on.
func (r *reader) word(l *line) func(*reader, *line) {
	word, _, _ := strings.Cut(l.rest(), blank)
	kind, known := r.kinds[word]
	if !known {
		l.at += r.alike(word)
		l.wrong()
	}
	l.at += len(word)
	return kind
}

// alike is how far a word, which is none of those that are known, is the beginning of one of them.
func (r *reader) alike(word string) int {
	most := 0
	for known := range r.kinds {
		n := 0
		for n < min(len(word), len(known)) && word[n] == known[n] {
			n++
		}
		most = max(most, n)
	}
	return most
}

func (r *reader) pass(l *line) {
	l.end()
	if len(r.c.Passes) == api.MaxPasses {
		panic(fault{api.ErrConfig, l.begin})
	}
	r.c.Passes = append(r.c.Passes, nil)
}

func (r *reader) rule(l *line) {
	from := l.quoted()
	l.take(blank + arrow)
	to := l.quoted()
	l.end()
	last := len(r.c.Passes) - 1
	if last < 0 {
		panic(fault{api.ErrConfig, l.begin})
	}
	r.c.Passes[last] = append(r.c.Passes[last], api.Rule{From: from.text, To: to.text})
}

func (r *reader) splitting(l *line) {
	l.take(blank)
	if r.split {
		panic(fault{api.ErrConfig, l.begin})
	}
	t, e, at := regex.Parse(l.rest())
	if e != api.OK {
		panic(fault{e, l.at + at})
	}
	r.c.Split, r.split = t, true
}

// merge lets texts by that no merge may have, and that stand there twice: what may be is asked behind all lines.
func (r *reader) merge(l *line) {
	left, right := l.quoted(), l.quoted()
	l.end()
	m := api.Merge{Left: numberOf(r.ids, left), Right: numberOf(r.ids, right)}
	r.ids[left.text+right.text] = bytes + len(r.c.Merges)
	r.c.Merges = append(r.c.Merges, m)
}

func (r *reader) name(l *line) {
	name := l.quoted()
	l.end()
	r.names[name.text] = len(r.c.Names)
	r.c.Names = append(r.c.Names, name.text)
}

func (r *reader) before(l *line) {
	name := l.quoted()
	l.end()
	r.c.Before = append(r.c.Before, numberOf(r.names, name))
}

func (r *reader) after(l *line) {
	name := l.quoted()
	l.end()
	r.c.After = append(r.c.After, numberOf(r.names, name))
}

// numberOf is the number of a text that must have one.
func numberOf(numbers map[string]int, q quoted) int {
	n, is := numbers[q.text]
	if !is {
		panic(fault{api.ErrName, q.at})
	}
	return n
}

// finish tells what only all lines tell, at the end's place.
func (r *reader) finish(end int) {
	switch {
	case r.lines == 0:
		panic(fault{api.ErrSign, end})
	case !r.split:
		panic(fault{api.ErrConfig, end})
	}
	if e := Right(r.c); e != api.OK {
		panic(fault{e, end})
	}
}
