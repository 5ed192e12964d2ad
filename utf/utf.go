// Package utf is layer 1: characters in bytes, what stands in place of those that are none, and sums that have room.
package utf

import (
	"strings"

	"fretsaw/api"
)

const (
	standIn       = 0xFFFD // what a bad byte is taken as
	lastCharacter = 0x10FFFF
	firstHalf     = 0xD800 // from here to lastHalf stand the numbers that are no characters
	lastHalf      = 0xDFFF
	most          = 1 << 62 // the greatest sum, the greatest product
)

// Next is the character that begins at a place, how many bytes are written for it, and true;
// FFFD, 1 and false, if none begins there; zero values, if the place is not one of the text's.
func Next(s string, at int) (int, int, bool) {
	if at < 0 || at >= len(s) {
		return 0, 0, false
	}
	c, n := first(s[at:])
	return c, n, !bad(c, n)
}

// first counts on a range's second step to tell where its first one ended.
func first(s string) (int, int) {
	c := 0
	for at, r := range s {
		if at > 0 {
			return c, at
		}
		c = int(r)
	}
	return c, len(s)
}

// bad looks at the length, too, since FFFD may be written in the text, by three bytes.
func bad(c, n int) bool { return c == standIn && n == 1 }

// Valid tells whether a text is well-formed.
func Valid(s string) bool {
	for at, r := range s {
		if r != standIn {
			continue
		}
		if _, _, ok := Next(s, at); !ok {
			return false
		}
	}
	return true
}

// Fix is the text with each bad byte as FFFD is written.
func Fix(s string) string {
	var out strings.Builder
	for _, r := range s {
		out.WriteRune(r)
	}
	return out.String()
}

// Count is how many characters and bad bytes a text has.
func Count(s string) int {
	n := 0
	for range s {
		n++
	}
	return n
}

// Put is what is written for a character; the empty text, if the number is none.
func Put(c int) string {
	if !character(c) {
		return ""
	}
	return string(rune(c))
}

// character is asked ahead of a conversion to rune, which would cut greater numbers off.
func character(c int) bool {
	return 0 <= c && c <= lastCharacter && (c < firstHalf || c > lastHalf)
}

// Add is the sum of two numbers that are not below 0, if it is at most 2^62.
func Add(a, b int) (int, api.Errno) {
	if a < 0 || b < 0 {
		return 0, api.ErrArg
	}
	if a > most-b {
		return 0, api.ErrOver
	}
	return a + b, api.OK
}

// Mul is the product of two numbers that are not below 0, if it is at most 2^62.
func Mul(a, b int) (int, api.Errno) {
	if a < 0 || b < 0 {
		return 0, api.ErrArg
	}
	if tooGreat(a, b) {
		return 0, api.ErrOver
	}
	return a * b, api.OK
}

// tooGreat asks by a shift first, since two numbers below 2^31 need no division; the product itself could go round.
func tooGreat(a, b int) bool {
	if (a|b)>>31 == 0 || b == 0 {
		return false
	}
	return a > most/b
}
