package heap_test

import (
	"fmt"
	"slices"
	"strings"

	"fretsaw/api"
)

// This file holds the chapter's words once more, in other ways than the program has them, and makes the merges, drops and texts that are tried.

// meantText writes an id: what is not a byte is opened up, the first one first.
func meantText(l []api.Merge, id int) string {
	var out []byte
	for open := []int{id}; len(open) > 0; {
		id, open = open[0], open[1:]
		if id < 256 {
			out = append(out, byte(id))
			continue
		}
		open = append([]int{l[id-256].Left, l[id-256].Right}, open...)
	}
	return string(out)
}

// meantTokens goes through all merges that are not dropped and all places, again and again, till one fits.
func meantTokens(l []api.Merge, drop []int, s string) []int {
	ids := idsOf(s)
	for again := true; again; {
		again = false
	search:
		for k, m := range l {
			for i := range ids {
				if i+1 < len(ids) && ids[i] == m.Left && ids[i+1] == m.Right && !slices.Contains(drop, k) {
					ids = slices.Concat(ids[:i], []int{256 + k}, ids[i+2:])
					again = true
					break search
				}
			}
		}
	}
	return ids
}

// swept takes each merge that is not dropped once, in the order of ranks, and goes along the ids: what a merge makes stands in later merges only.
func swept(l []api.Merge, drop []int, s string) []int {
	ids := idsOf(s)
	for k, m := range l {
		if slices.Contains(drop, k) {
			continue
		}
		to := 0
		for i := 0; i < len(ids); i++ {
			id := ids[i]
			if i+1 < len(ids) && id == m.Left && ids[i+1] == m.Right {
				id = 256 + k
				i++
			}
			ids[to] = id
			to++
		}
		ids = ids[:to]
	}
	return ids
}

// instead is merges with others in the place of those that are dropped: each takes two bytes from 128 on, and no two the same ones.
func instead(l []api.Merge, drop []int) []api.Merge {
	l = slices.Clone(l)
	for i, k := range drop {
		l[k] = api.Merge{Left: 128 + i%64, Right: 192 + i/64}
	}
	return l
}

// idsOf is the bytes of a text, as ids.
func idsOf(s string) []int {
	ids := []int{}
	for _, b := range []byte(s) {
		ids = append(ids, int(b))
	}
	return ids
}

// pairs takes Lefts and Rights in turn.
func pairs(ids ...int) (l []api.Merge) {
	for pair := range slices.Chunk(ids, 2) {
		l = append(l, api.Merge{Left: pair[0], Right: pair[1]})
	}
	return l
}

// numbered is as many merges as are asked for, each of two bytes from 64 to 127: up to 4096 of them are different ones.
func numbered(many int) (l []api.Merge) {
	for i := range many {
		l = append(l, api.Merge{Left: 64 + i%64, Right: 64 + i/64%64})
	}
	return l
}

// chain is merges each of which puts one byte behind what the one ahead of it makes, the last text being of this many bytes.
func chain(b, size int) []api.Merge {
	l := pairs(b, b)
	for len(l)+1 < size {
		l = append(l, api.Merge{Left: 255 + len(l), Right: b})
	}
	return l
}

// doubled is merges each of which takes twice what the one ahead of it makes.
func doubled(b, many int) []api.Merge {
	l := pairs(b, b)
	for len(l) < many {
		l = append(l, api.Merge{Left: 255 + len(l), Right: 255 + len(l)})
	}
	return l
}

// upTo is the numbers from 0 on.
func upTo(many int) (l []int) {
	for k := range many {
		l = append(l, k)
	}
	return l
}

// everything is all bytes, each once.
func everything() string {
	var all [256]byte
	for b := range all {
		all[b] = byte(b)
	}
	return string(all[:])
}

// spread makes numbers that look as if there were no order in them: the same ones at each run.
func spread(n uint64) uint64 {
	n += 0x9E3779B97F4A7C15
	n = (n ^ n>>30) * 0xBF58476D1CE4E5B9
	n = (n ^ n>>27) * 0x94D049BB133111EB
	return n ^ n>>31
}

// dice throws numbers, the same ones for the same n.
type dice struct{ n, at uint64 }

func (d *dice) below(n int) int {
	d.at++
	return int(spread(d.n<<24|d.at) % uint64(n))
}

// text has up to room bytes.
func (d *dice) text(bytes string, room int) string {
	return d.long(bytes, d.below(room+1))
}

// long has just so many bytes.
func (d *dice) long(bytes string, size int) string {
	var s strings.Builder
	for range size {
		s.WriteByte(bytes[d.below(len(bytes))])
	}
	return s.String()
}

// id is one of these bytes, or of the ids of so many merges.
func (d *dice) id(bytes string, merges int) int {
	if n := d.below(len(bytes) + merges); n >= len(bytes) {
		return 256 + n - len(bytes)
	} else {
		return int(bytes[n])
	}
}

// merges is some that may be: what may not stand behind those ahead is left out.
func (d *dice) merges(bytes string, many int) (l []api.Merge) {
	texts := map[string]bool{}
	for range d.below(many + 1) {
		m := api.Merge{Left: d.id(bytes, len(l)), Right: d.id(bytes, len(l))}
		text := meantText(l, m.Left) + meantText(l, m.Right)
		if len(text) <= 64 && !texts[text] {
			texts[text] = true
			l = append(l, m)
		}
	}
	return l
}

// drop is some of so many numbers, rising: none of them, each second one, each fourth one, or so.
func (d *dice) drop(many int) (l []int) {
	each := d.below(4)
	for k := range many {
		if each > 0 && d.below(2*each) == 0 {
			l = append(l, k)
		}
	}
	return l
}

// show writes a list, but not all of a long one.
func show[E any](l []E) string {
	if len(l) > 30 {
		return fmt.Sprint(l[:30]) + ".."
	}
	return fmt.Sprint(l)
}
