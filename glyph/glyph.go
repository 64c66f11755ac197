// Package glyph is layer 1: see shared/doc/01-glyph.md.
package glyph

import "incunable/api"

// What the characters of a stretch are good for.
const (
	char  = iota // they are characters
	start        // a name may begin with them
	part         // a name may have them, but not begin with them
)

// stretch is a range of characters, with both its ends.
type stretch struct {
	use       int
	low, high rune
}

// stretches stands in one array, as arrays of three lengths would need three searches.
var stretches = [...]stretch{
	{char, 0x20, 0xd7ff},
	{char, 0x9, 0xa},
	{char, 0xd, 0xd},
	{char, 0xe000, 0xfffd},
	{char, 0x10000, 0x10ffff},

	{start, 'a', 'z'},
	{start, 'A', 'Z'},
	{start, '_', '_'},
	{start, 0xc0, 0xd6},
	{start, 0xd8, 0xf6},
	{start, 0xf8, 0x2ff},
	{start, 0x370, 0x37d},
	{start, 0x37f, 0x1fff},
	{start, 0x200c, 0x200d},
	{start, 0x2070, 0x218f},
	{start, 0x2c00, 0x2fef},
	{start, 0x3001, 0xd7ff},
	{start, 0xf900, 0xfdcf},
	{start, 0xfdf0, 0xfffd},
	{start, 0x10000, 0xeffff},

	{part, '-', '.'},
	{part, '0', '9'},
	{part, 0xb7, 0xb7},
	{part, 0x300, 0x36f},
	{part, 0x203f, 0x2040},
}

func within(c rune, use int) bool {
	for i := range stretches {
		r := stretches[i]
		if r.use == use && r.low <= c && c <= r.high {
			return true
		}
	}
	return false
}

// Char tells whether a number is a character's.
func Char(c rune) bool { return within(c, char) }

// Start tells whether a name may begin with a character.
func Start(c rune) bool { return within(c, start) }

// Part tells whether a name may have a character.
func Part(c rune) bool { return within(c, start) || within(c, part) }

// Put tells a character's bytes, and whether it is one.
func Put(c rune) (string, bool) {
	switch {
	case !Char(c):
		return "", false
	case c < 0x80:
		return lay(c), true
	case c < 0x800:
		return lay(0xc0|c>>6, c), true
	case c < 0x10000:
		return lay(0xe0|c>>12, c>>6, c), true
	}
	return lay(0xf0|c>>18, c>>12, c>>6, c), true
}

// lay lays a first byte as it is, and of each of the rest the lowest six bits, as only the first byte differs from length to length.
func lay(first rune, rest ...rune) string {
	b := []byte{byte(first)}
	for _, r := range rest {
		b = append(b, byte(0x80|r&0x3f))
	}
	return string(b)
}

// Next tells the character that a text begins with, and how many bytes that has: 0 and 0 of an empty text, -1 and 0 where there is no character.
func Next(s string) (rune, int) {
	if s == "" {
		return 0, 0
	}
	many, c, least := lead(s[0])
	if many == 0 || many > len(s) {
		return -1, 0
	}
	for i := 1; i < many; i++ {
		if s[i]&0xc0 != 0x80 {
			return -1, 0
		}
		c = c<<6 | rune(s[i]&0x3f)
	}
	// Below least the bytes are more than Put would lay.
	if c < least || !Char(c) {
		return -1, 0
	}
	return c, many
}

// lead tells what a first byte says: how many bytes there are (0, if none begins so), the character's highest bits, and the least character that takes so many bytes.
func lead(b byte) (many int, high, least rune) {
	switch {
	case b < 0x80:
		return 1, rune(b), 0
	case b&0xe0 == 0xc0:
		return 2, rune(b & 0x1f), 0x80
	case b&0xf0 == 0xe0:
		return 3, rune(b & 0x0f), 0x800
	case b&0xf8 == 0xf0:
		return 4, rune(b & 0x07), 0x10000
	}
	return 0, 0, 0
}

// Count tells how many characters a text is made of; -1, if it is not made of such.
func Count(s string) int {
	count := 0
	for s != "" {
		_, n := Next(s)
		if n == 0 {
			return -1
		}
		s = s[n:]
		count++
	}
	return count
}

// Name tells whether a text is a name.
func Name(s string) bool {
	if len(s) > api.MaxName {
		return false
	}
	// Next's 0 of an empty text is no Start, and its -1 no Part: neither needs a check of its own.
	if c, _ := Next(s); !Start(c) {
		return false
	}
	for s != "" {
		c, n := Next(s)
		if !Part(c) {
			return false
		}
		s = s[n:]
	}
	return true
}
