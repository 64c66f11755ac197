package glyph_test

import (
	"math"
	"strings"
	"testing"
	"unicode/utf8"

	"incunable/api"
	"incunable/glyph"
)

type ends struct{ low, high rune }

// The chapter's ranges, in its order and range by range.
var (
	chars = []ends{{0x9, 0x9}, {0xa, 0xa}, {0xd, 0xd}, {0x20, 0xd7ff}, {0xe000, 0xfffd}, {0x10000, 0x10ffff}}

	starts = []ends{{0x41, 0x5a}, {0x5f, 0x5f}, {0x61, 0x7a}, {0xc0, 0xd6}, {0xd8, 0xf6}, {0xf8, 0x2ff}, {0x370, 0x37d}, {0x37f, 0x1fff},
		{0x200c, 0x200c}, {0x200d, 0x200d}, {0x2070, 0x218f}, {0x2c00, 0x2fef}, {0x3001, 0xd7ff}, {0xf900, 0xfdcf}, {0xfdf0, 0xfffd}, {0x10000, 0xeffff}}

	others = []ends{{0x2d, 0x2d}, {0x2e, 0x2e}, {0x30, 0x39}, {0xb7, 0xb7}, {0x300, 0x36f}, {0x203f, 0x203f}, {0x2040, 0x2040}}
)

func among(c rune, lists ...[]ends) bool {
	for _, l := range lists {
		for _, r := range l {
			if r.low <= c && c <= r.high {
				return true
			}
		}
	}
	return false
}

// wrong are numbers that are no character's, whatever is asked of them.
func wrong() []rune {
	l := []rune{math.MinInt32, -0x110000, -0x80, -'a', -1, 0, 1, 8, 0xb, 0xc, 0xe, 0x1f, 0xfffe, 0xffff, 0x110000, 0x1fffff, 0x200000, 0x110000 + 'a', math.MaxInt32}
	for c := rune(0xd800); c <= 0xdfff; c++ {
		l = append(l, c)
	}
	return l
}

// numbers calls f with every number from below the first character to above the last one.
func numbers(f func(c rune)) {
	for c := rune(-0x100); c <= 0x110100; c++ {
		f(c)
	}
	for _, c := range wrong() {
		f(c)
	}
}

// P1.1: both ends of every range, and the numbers just outside them, written out one by one.
func TestEndsOfRanges(t *testing.T) {
	type row struct {
		c                 rune
		char, start, part bool
	}
	for _, r := range []row{
		{-1, false, false, false}, {0, false, false, false},
		{0x8, false, false, false}, {0x9, true, false, false}, {0xa, true, false, false}, {0xb, false, false, false},
		{0xc, false, false, false}, {0xd, true, false, false}, {0xe, false, false, false},
		{0x1f, false, false, false}, {0x20, true, false, false},
		{',', true, false, false}, {'-', true, false, true}, {'.', true, false, true}, {'/', true, false, false},
		{'0', true, false, true}, {'9', true, false, true}, {':', true, false, false},
		{'@', true, false, false}, {'A', true, true, true}, {'Z', true, true, true}, {'[', true, false, false},
		{'^', true, false, false}, {'_', true, true, true}, {'`', true, false, false},
		{'a', true, true, true}, {'z', true, true, true}, {'{', true, false, false}, {0x7f, true, false, false},
		{0xb6, true, false, false}, {0xb7, true, false, true}, {0xb8, true, false, false},
		{0xbf, true, false, false}, {0xc0, true, true, true}, {0xd6, true, true, true}, {0xd7, true, false, false},
		{0xd8, true, true, true}, {0xf6, true, true, true}, {0xf7, true, false, false}, {0xf8, true, true, true},
		{0x2ff, true, true, true}, {0x300, true, false, true}, {0x36f, true, false, true},
		{0x370, true, true, true}, {0x37d, true, true, true}, {0x37e, true, false, false}, {0x37f, true, true, true},
		{0x1fff, true, true, true}, {0x2000, true, false, false},
		{0x200b, true, false, false}, {0x200c, true, true, true}, {0x200d, true, true, true}, {0x200e, true, false, false},
		{0x203e, true, false, false}, {0x203f, true, false, true}, {0x2040, true, false, true}, {0x2041, true, false, false},
		{0x206f, true, false, false}, {0x2070, true, true, true}, {0x218f, true, true, true}, {0x2190, true, false, false},
		{0x2bff, true, false, false}, {0x2c00, true, true, true}, {0x2fef, true, true, true}, {0x2ff0, true, false, false},
		{0x3000, true, false, false}, {0x3001, true, true, true}, {0xd7ff, true, true, true}, {0xd800, false, false, false},
		{0xdfff, false, false, false}, {0xe000, true, false, false},
		{0xf8ff, true, false, false}, {0xf900, true, true, true}, {0xfdcf, true, true, true}, {0xfdd0, true, false, false},
		{0xfdef, true, false, false}, {0xfdf0, true, true, true}, {0xfffd, true, true, true}, {0xfffe, false, false, false},
		{0xffff, false, false, false}, {0x10000, true, true, true}, {0xeffff, true, true, true}, {0xf0000, true, false, false},
		{0x10ffff, true, false, false}, {0x110000, false, false, false},
	} {
		if got := (row{r.c, glyph.Char(r.c), glyph.Start(r.c), glyph.Part(r.c)}); got != r {
			t.Errorf("P1.1: %x: got %v, want %v", r.c, got, r)
		}
	}
}

// P1.1: every number there is.
func TestAllNumbers(t *testing.T) {
	numbers(func(c rune) {
		if glyph.Char(c) != among(c, chars) {
			t.Errorf("P1.1: Char(%x)", c)
		}
		if glyph.Start(c) != among(c, starts) {
			t.Errorf("P1.1: Start(%x)", c)
		}
		if glyph.Part(c) != among(c, starts, others) {
			t.Errorf("P1.1: Part(%x)", c)
		}
	})
}

// P1.1, P1.2: what is no character is nothing else.
func TestWrongNumbers(t *testing.T) {
	for _, c := range wrong() {
		if glyph.Char(c) || glyph.Start(c) || glyph.Part(c) {
			t.Errorf("P1.1: %x", c)
		}
		if s, is := glyph.Put(c); s != "" || is {
			t.Errorf("P1.2: %x: %x %v", c, s, is)
		}
	}
}

// P1.2: the bounds 80, 800 and 10000, and the chapter's examples.
func TestPut(t *testing.T) {
	for c, want := range map[rune]string{
		0x9: "\x09", 0x20: "\x20", 'a': "a", 0x7e: "\x7e", 0x7f: "\x7f",
		0x80: "\xc2\x80", 0x81: "\xc2\x81", 0xbf: "\xc2\xbf", 0xc0: "\xc3\x80", 0xe9: "\xc3\xa9", 0x7fe: "\xdf\xbe", 0x7ff: "\xdf\xbf",
		0x800: "\xe0\xa0\x80", 0x801: "\xe0\xa0\x81", 0xfff: "\xe0\xbf\xbf", 0x1000: "\xe1\x80\x80", 0x20ac: "\xe2\x82\xac",
		0xd7ff: "\xed\x9f\xbf", 0xe000: "\xee\x80\x80", 0xfffd: "\xef\xbf\xbd",
		0x10000: "\xf0\x90\x80\x80", 0x10001: "\xf0\x90\x80\x81", 0x1f600: "\xf0\x9f\x98\x80", 0x3ffff: "\xf0\xbf\xbf\xbf", 0x40000: "\xf1\x80\x80\x80",
		0x10ffff: "\xf4\x8f\xbf\xbf",
	} {
		if s, is := glyph.Put(c); s != want || !is {
			t.Errorf("P1.2: %x: %x %v, want %x", c, s, is, want)
		}
	}
}

// P1.2, P1.4: of every number, with several things behind it.
func TestPutAndNext(t *testing.T) {
	numbers(func(c rune) {
		s, is := glyph.Put(c)
		if is != among(c, chars) || is && s != string(c) || !is && s != "" {
			t.Errorf("P1.2: %x: %x %v", c, s, is)
		}
		if !is {
			return
		}
		for _, more := range []string{"", "x", "\x80", "\xff", "\x00", s} {
			if d, n := glyph.Next(s + more); d != c || n != len(s) {
				t.Errorf("P1.4: %x with %x behind it: %x %d", c, more, d, n)
			}
		}
	})
}

// P1.3: texts that begin with no character's bytes, by what is amiss with them.
func TestNextWrong(t *testing.T) {
	if c, n := glyph.Next(""); c != 0 || n != 0 {
		t.Errorf("P1.3: Next of nothing: %x %d", c, n)
	}
	for why, l := range map[string][]string{
		"no character": {"\x00", "\x08", "\x0b", "\x1f", "\xef\xbf\xbe", "\xef\xbf\xbf", "\xed\xa0\x80", "\xed\xaf\xbf", "\xed\xb0\x80", "\xed\xbf\xbf",
			"\xf4\x90\x80\x80", "\xf5\x80\x80\x80", "\xf7\xbf\xbf\xbf"},
		"broken off": {"\xc3", "\xe2", "\xe2\x82", "\xf0", "\xf0\x9f", "\xf0\x9f\x98"},
		"cut by another": {"\xc3a", "\xc3\xc3", "\xe2a\xac", "\xe2\x82a", "\xe2\x82\xc0", "\xf0a\x98\x80", "\xf0\x9fa\x80", "\xf0\x9f\x98a",
			"\xf0\x9f\x98\xff", "\xf0\x9f\x98\x40"},
		"longer than its own": {"\xc0\x80", "\xc0\x8a", "\xc1\xa1", "\xc1\xbf", "\xe0\x80\x80", "\xe0\x81\xa1", "\xe0\x82\x80", "\xe0\x9f\xbf",
			"\xf0\x80\x80\x80", "\xf0\x80\x81\xa1", "\xf0\x82\x82\xac", "\xf0\x8f\xbf\xbd"},
		"no first byte": {"\x80", "\xbf", "\x80a", "\xf8\x88\x80\x80\x80", "\xfb\xbf\xbf\xbf\xbf", "\xfc\x84\x80\x80\x80\x80", "\xfe", "\xff"},
	} {
		for _, s := range l {
			if c, n := glyph.Next(s); c != -1 || n != 0 {
				t.Errorf("P1.3: %s: Next(%x): %x %d", why, s, c, n)
			}
			for _, whole := range []string{s, "a" + s, "\u20ac" + s} {
				if n := glyph.Count(whole); n != -1 {
					t.Errorf("P1.3: %s: Count(%x): %d", why, whole, n)
				}
				if glyph.Name(whole) {
					t.Errorf("P1.3: %s: Name(%x)", why, whole)
				}
			}
		}
	}
}

// texts calls f with every text of up to two bytes, and with those of three and four whose bytes are at the ends of what UTF-8 tells apart.
func texts(f func(s string)) {
	f("")
	for a := range 256 {
		f(string([]byte{byte(a)}))
		for b := range 256 {
			f(string([]byte{byte(a), byte(b)}))
		}
	}
	edges := []byte{0x00, 0x09, 'a', 0x7f, 0x80, 0x81, 0x8f, 0x90, 0x9f, 0xa0, 0xbd, 0xbe, 0xbf, 0xc0, 0xc2, 0xe0, 0xff}
	for a := 0xc0; a < 0x100; a++ {
		for _, b := range edges {
			for _, c := range edges {
				f(string([]byte{byte(a), b, c}))
				for _, d := range edges {
					f(string([]byte{byte(a), b, c, d}))
				}
			}
		}
	}
}

// P1.3: held against the library's reading.
func TestNext(t *testing.T) {
	texts(func(s string) {
		want, many := utf8.DecodeRuneInString(s)
		switch {
		case s == "":
			want, many = 0, 0
		case want == utf8.RuneError && many == 1, !among(want, chars):
			want, many = -1, 0
		}
		if c, n := glyph.Next(s); c != want || n != many {
			t.Errorf("P1.3: Next(%x): %x %d, want %x %d", s, c, n, want, many)
		}
	})
}

// P1.3: held against the library's reading.
func TestCount(t *testing.T) {
	for s, want := range map[string]int{"": 0, "a": 1, "abc": 3, "\t\n\r ": 4, "\u00e9\u20ac\U00010000": 3, "a\x00": -1, "\x00a": -1, "a\xe2\x82": -1, "\xe2\x82a": -1, "abc\x80": -1} {
		if n := glyph.Count(s); n != want {
			t.Errorf("P1.3: Count(%x): %d, want %d", s, n, want)
		}
	}
	texts(func(s string) {
		want := utf8.RuneCountInString(s)
		if !utf8.ValidString(s) {
			want = -1
		}
		for _, c := range s {
			if !among(c, chars) {
				want = -1
			}
		}
		if n := glyph.Count(s); n != want {
			t.Errorf("P1.3: Count(%x): %d, want %d", s, n, want)
		}
	})
	if n := glyph.Count(strings.Repeat("a\u20ac", 100000)); n != 200000 {
		t.Errorf("P1.3: Count of a long text: %d", n)
	}
}

// P1.3: MaxName counts bytes, not characters.
func TestNameLength(t *testing.T) {
	for s, want := range map[string]bool{
		"":                                      false,
		"n":                                     true,
		strings.Repeat("n", api.MaxName-1):      true,
		strings.Repeat("n", api.MaxName):        true,
		strings.Repeat("n", api.MaxName+1):      false,
		strings.Repeat("\u00e9", api.MaxName/2): true,
		strings.Repeat("\u00e9", api.MaxName/2) + "n":        false,
		strings.Repeat("\u3001", api.MaxName/3):              true,
		"n" + strings.Repeat("\u3001", api.MaxName/3):        false,
		strings.Repeat("\U00010000", api.MaxName/4):          true,
		strings.Repeat("\U00010000", api.MaxName/4) + "n":    false,
		strings.Repeat("n", api.MaxName-1) + "\u00e9":        false,
		strings.Repeat("n", api.MaxName-1) + "\xc3":          false,
		strings.Repeat("n", api.MaxName-2) + "\u00e9":        true,
		strings.Repeat("n", api.MaxName-1) + " ":             false,
		strings.Repeat("n", 100*api.MaxName):                 false,
		strings.Repeat("\xc3", api.MaxName):                  false,
		strings.Repeat("n", api.MaxName-2) + "\xc0\x80":      false,
		strings.Repeat("-", api.MaxName):                     false,
		"_" + strings.Repeat("-", api.MaxName-1):             true,
		strings.Repeat("n", api.MaxName-1) + "\x00":          false,
		strings.Repeat("n", api.MaxName-4) + "\U000eff80":    true,
		strings.Repeat("n", api.MaxName-4) + "\U000f0000":    false,
		strings.Repeat("n", api.MaxName-3) + "\ufffd":        true,
		strings.Repeat("n", api.MaxName-3) + "\xef\xbf\xbe":  false,
		"\ufffd" + strings.Repeat("\u0300", api.MaxName/2-2): true,
	} {
		if glyph.Name(s) != want {
			t.Errorf("P1.3: Name(%q), %d bytes: want %v", s, len(s), want)
		}
	}
}

// P1.3: which names there are.
func TestName(t *testing.T) {
	for s, want := range map[string]bool{
		"a-1": true, "-a": false, "1a": false, ".a": false, "_": true, "_a.b-c0": true, "A": true, "Z9": true,
		"a b": false, " a": false, "a ": false, "a:b": false, ":": false, "a/b": false, "a<": false, "a\n": false, "a\x00": false, "\x00": false,
		"\u00e9": true, "\u00b7": false, "a\u00b7": true, "\u0300": false, "a\u0300": true, "a\u203f\u2040": true, "\u203f": false,
		"a\u00d7": false, "\u00d7": false, "a\x80": false, "\x80": false, "a\xe2\x82": false, "a\xc1\xa1": false, "\xc1\xa1": false,
	} {
		if glyph.Name(s) != want {
			t.Errorf("P1.3: Name(%q): want %v", s, want)
		}
	}
	numbers(func(c rune) {
		s, is := glyph.Put(c)
		if !is {
			return
		}
		if glyph.Name(s) != among(c, starts) {
			t.Errorf("P1.3: Name of %x", c)
		}
		if glyph.Name("n"+s) != among(c, starts, others) || glyph.Name("n"+s+"n") != among(c, starts, others) {
			t.Errorf("P1.3: Name with %x in it", c)
		}
	})
}

// P1.4: whatever begins a name may be in one; whatever may be in one is a character.
func TestStartPartChar(t *testing.T) {
	numbers(func(c rune) {
		if glyph.Start(c) && !glyph.Part(c) {
			t.Errorf("P1.4: %x begins a name, but is not in one", c)
		}
		if glyph.Part(c) && !glyph.Char(c) {
			t.Errorf("P1.4: %x is in a name, but no character", c)
		}
	})
}

// P1.4: the count of two texts, one behind the other.
func TestCountOfTwo(t *testing.T) {
	l := []string{"", "a", "\t", "abc", "\u00e9", "\u20ac\u20ac", "\U00010000", "a\u00e9\u20ac\U0010ffff", strings.Repeat("\u07ff\u0800", 50)}
	for _, a := range l {
		for _, b := range l {
			if glyph.Count(a) < 0 || glyph.Count(a+b) != glyph.Count(a)+glyph.Count(b) {
				t.Errorf("P1.4: %q and %q: %d", a, b, glyph.Count(a+b))
			}
		}
	}
	// Halves of a character are none, though the whole is one.
	if glyph.Count("\xe2\x82") != -1 || glyph.Count("\xac") != -1 || glyph.Count("\xe2\x82"+"\xac") != 1 {
		t.Error("P1.4: a character in two halves")
	}
}
