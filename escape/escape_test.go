package escape_test

import (
	"regexp"
	"strconv"
	"strings"
	"testing"
	"unicode/utf8"

	"incunable/api"
	"incunable/escape"
)

// isChar is chapter 1's character, said anew.
func isChar(c rune) bool {
	return c == 9 || c == 0xa || c == 0xd || c >= 0x20 && c <= 0xd7ff || c >= 0xe000 && c <= 0xfffd || c >= 0x10000 && c <= 0x10ffff
}

var references = regexp.MustCompile(`^&(amp|lt|gt|quot|apos|#[0-9]{1,7}|#x[0-9a-fA-F]{1,7});`)

var names = map[string]rune{"amp": '&', "lt": '<', "gt": '>', "quot": '"', "apos": '\''}

// number tells what a reference's inside (what is between & and the semicolon) is for.
func number(inside string) rune {
	if c, is := names[inside]; is {
		return c
	}
	base, digits := 10, inside[1:]
	if digits[0] == 'x' {
		base, digits = 16, digits[1:]
	}
	n, err := strconv.ParseInt(digits, base, 64)
	if err != nil {
		panic(err)
	}
	return rune(n)
}

// undo says P2.2 anew, by a pattern.
func undo(s string, value bool) (string, int, api.Errno) {
	made := ""
	for at := 0; at < len(s); {
		c, n := utf8.DecodeRuneInString(s[at:])
		switch {
		case c == '<' || c == '>':
			return "", at, api.ErrEscapeForm
		case c == '&':
			m := references.FindStringSubmatch(s[at:])
			if m == nil {
				return "", at, api.ErrEscapeForm
			}
			if c, n = number(m[1]), len(m[0]); !isChar(c) {
				return "", at, api.ErrEscapeChar
			}
		case c == utf8.RuneError && n == 1, !isChar(c), c == 0xd, value && strings.ContainsRune("\"\t\n", c):
			return "", at, api.ErrEscapeChar
		}
		made += string(c)
		at += n
	}
	return made, len(s), api.OK
}

var (
	inText  = strings.NewReplacer("&", "&amp;", "<", "&lt;", ">", "&gt;", "\r", "&#13;")
	inValue = strings.NewReplacer("&", "&amp;", "<", "&lt;", ">", "&gt;", "\r", "&#13;", `"`, "&quot;", "\t", "&#9;", "\n", "&#10;")
)

// escaped says P2.1 anew.
func escaped(s string, value bool) (string, bool) {
	if !utf8.ValidString(s) || strings.ContainsFunc(s, func(c rune) bool { return !isChar(c) }) {
		return "", false
	}
	if value {
		return inValue.Replace(s), true
	}
	return inText.Replace(s), true
}

// both calls f with Text and Value, and with what Undo is told of each.
func both(f func(what string, call func(string) (string, bool), value bool)) {
	f("Text", escape.Text, false)
	f("Value", escape.Value, true)
}

// spelt calls f with every text of up to most of the given parts.
func spelt(parts []string, most int, f func(s string)) {
	var grow func(s string, left int)
	grow = func(s string, left int) {
		f(s)
		if left == 0 {
			return
		}
		for _, p := range parts {
			grow(s+p, left-1)
		}
	}
	grow("", most)
}

// odd are texts that are not made of characters.
var odd = []string{
	"\x00", "\x01", "\x08", "\x0b", "\x0c", "\x0e", "\x1f", "\x80", "\xbf", "\xff", "\xfe", "\xc3", "\xe2\x82", "\xf0\x9f\x98",
	"\xc0\x80", "\xc1\xbf", "\xe0\x80\x80", "\xe0\x9f\xbf", "\xf0\x80\x80\x80", "\xf0\x8f\xbf\xbf", "\xed\xa0\x80", "\xed\xbf\xbf",
	"\xef\xbf\xbe", "\xef\xbf\xbf", "\xf4\x90\x80\x80", "\xf5\x80\x80\x80", "\xc3a", "\xe2a\xac",
	"\xc0\xbc", "\xc0\xa6", // longer than < and & are
}

// P2.1: written out one by one.
func TestEscaped(t *testing.T) {
	for _, r := range []struct{ s, text, value string }{
		{"", "", ""},
		{"a", "a", "a"},
		{"a<b", "a&lt;b", "a&lt;b"},
		{"&", "&amp;", "&amp;"},
		{"<", "&lt;", "&lt;"},
		{">", "&gt;", "&gt;"},
		{`"`, `"`, "&quot;"},
		{"'", "'", "'"},
		{"\t", "\t", "&#9;"},
		{"\n", "\n", "&#10;"},
		{"\r", "&#13;", "&#13;"},
		{"\r\n", "&#13;\n", "&#13;&#10;"},
		{"&amp;", "&amp;amp;", "&amp;amp;"},
		{"&#13;", "&amp;#13;", "&amp;#13;"},
		{"<<>>&&", "&lt;&lt;&gt;&gt;&amp;&amp;", "&lt;&lt;&gt;&gt;&amp;&amp;"},
		{"a\"b'c\td\ne\rf", "a\"b'c\td\ne&#13;f", "a&quot;b'c&#9;d&#10;e&#13;f"},
		{" ;#x\x7f", " ;#x\x7f", " ;#x\x7f"},
		{"\u0085\u00e9\u2028\u20ac\ud7ff\ue000\ufffd\U00010000\U0010ffff", "\u0085\u00e9\u2028\u20ac\ud7ff\ue000\ufffd\U00010000\U0010ffff", "\u0085\u00e9\u2028\u20ac\ud7ff\ue000\ufffd\U00010000\U0010ffff"},
	} {
		if s, is := escape.Text(r.s); !is || s != r.text {
			t.Errorf("P2.1: Text(%q) is %q, %v", r.s, s, is)
		}
		if s, is := escape.Value(r.s); !is || s != r.value {
			t.Errorf("P2.1: Value(%q) is %q, %v", r.s, s, is)
		}
	}
}

// P2.1: what is not made of characters is refused, wherever that is.
func TestEscapedOdd(t *testing.T) {
	both(func(what string, call func(string) (string, bool), value bool) {
		for _, o := range odd {
			for _, s := range []string{o, "a" + o, "<" + o, o + "a", o + "&", "a&\r" + o + "b"} {
				if made, is := call(s); is || made != "" {
					t.Errorf("P2.1: %s(%q) is %q, %v", what, s, made, is)
				}
			}
		}
	})
}

// P2.1, P2.3: every character, and every number beside them.
func TestEveryCharacter(t *testing.T) {
	both(func(what string, call func(string) (string, bool), value bool) {
		for c := rune(0); c <= 0x10ffff; c++ {
			if c >= 0xd800 && c <= 0xdfff {
				continue
			}
			s := string(c)
			made, is := call(s)
			if want, right := escaped(s, value); made != want || is != right {
				t.Fatalf("P2.1: %s(%q) is %q, %v", what, s, made, is)
			}
			if !is {
				continue
			}
			if back, n, e := escape.Undo(made, value); back != s || n != len(made) || e != api.OK {
				t.Fatalf("P2.3: Undo(%s(%q)) is %q, %d, %d", what, s, back, n, e)
			}
		}
	})
}

// P2.2: references that there are, written out one by one, in a text and in a value.
func TestReferences(t *testing.T) {
	for s, want := range map[string]string{
		"": "", "a": "a", "'": "'", ";": ";", "#": "#", "x;": "x;",
		"&amp;": "&", "&lt;": "<", "&gt;": ">", "&quot;": `"`, "&apos;": "'",
		"&#x41;&amp;": "A&",
		"&#9;":        "\t", "&#09;": "\t", "&#0000009;": "\t", "&#10;": "\n", "&#13;": "\r", "&#34;": `"`, "&#38;": "&", "&#60;": "<", "&#62;": ">",
		"&#x9;": "\t", "&#xa;": "\n", "&#xA;": "\n", "&#xd;": "\r", "&#xD;": "\r", "&#x000000d;": "\r", "&#x22;": `"`, "&#x26;": "&", "&#x3c;": "<", "&#x3C;": "<",
		"&#65;": "A", "&#0000065;": "A", "&#x41;": "A", "&#x0000041;": "A",
		"&#1114111;": "\U0010ffff", "&#x10ffff;": "\U0010ffff", "&#x010FfFf;": "\U0010ffff", "&#xabcde;": "\U000abcde", "&#xABCDE;": "\U000abcde", "&#xfF;": "\u00ff",
		"&#32;": " ", "&#55295;": "\ud7ff", "&#57344;": "\ue000", "&#65533;": "\ufffd", "&#x10000;": "\U00010000",
		"&amp;lt;": "&lt;", "&#38;#65;": "&#65;", "&#38;amp;": "&amp;",
		"&amp;;": "&;", "&amp;amp;": "&amp;", "a&lt;b&gt;c": "a<b>c", "\u00e9&apos;\U0010ffff": "\u00e9'\U0010ffff",
	} {
		for _, value := range []bool{false, true} {
			if made, n, e := escape.Undo(s, value); made != want || n != len(s) || e != api.OK {
				t.Errorf("P2.2: Undo(%q, %v) is %q, %d, %d", s, value, made, n, e)
			}
		}
	}
}

// P2.2: what is amiss in a text as in a value, written out one by one.
func TestAmiss(t *testing.T) {
	for _, r := range []struct {
		s  string
		at int
		e  api.Errno
	}{
		{"<", 0, api.ErrEscapeForm}, {">", 0, api.ErrEscapeForm}, {"a<b", 1, api.ErrEscapeForm}, {"\u20ac>", 3, api.ErrEscapeForm}, {"]]>", 2, api.ErrEscapeForm},
		{"&", 0, api.ErrEscapeForm}, {"a&", 1, api.ErrEscapeForm}, {"a&b;", 1, api.ErrEscapeForm}, {"&;", 0, api.ErrEscapeForm}, {"& ", 0, api.ErrEscapeForm}, {"&&amp;", 0, api.ErrEscapeForm},
		{"&a", 0, api.ErrEscapeForm}, {"&a;", 0, api.ErrEscapeForm}, {"&am;", 0, api.ErrEscapeForm}, {"&amp", 0, api.ErrEscapeForm}, {"&ampx;", 0, api.ErrEscapeForm}, {"&amp ;", 0, api.ErrEscapeForm}, {"& amp;", 0, api.ErrEscapeForm},
		{"&ap;", 0, api.ErrEscapeForm}, {"&apo;", 0, api.ErrEscapeForm}, {"&apos", 0, api.ErrEscapeForm}, {"&apmp;", 0, api.ErrEscapeForm}, {"&ampos;", 0, api.ErrEscapeForm},
		{"&l;", 0, api.ErrEscapeForm}, {"&lt", 0, api.ErrEscapeForm}, {"&ltt;", 0, api.ErrEscapeForm}, {"&g;", 0, api.ErrEscapeForm}, {"&gt", 0, api.ErrEscapeForm}, {"&q;", 0, api.ErrEscapeForm}, {"&quo;", 0, api.ErrEscapeForm}, {"&quot", 0, api.ErrEscapeForm},
		{"&AMP;", 0, api.ErrEscapeForm}, {"&Lt;", 0, api.ErrEscapeForm}, {"&lT;", 0, api.ErrEscapeForm}, {"&nbsp;", 0, api.ErrEscapeForm}, {"&\u00e1mp;", 0, api.ErrEscapeForm},
		{"&#", 0, api.ErrEscapeForm}, {"&#;", 0, api.ErrEscapeForm}, {"&#x", 0, api.ErrEscapeForm}, {"&#x;", 0, api.ErrEscapeForm}, {"&#X41;", 0, api.ErrEscapeForm}, {"&#xx41;", 0, api.ErrEscapeForm}, {"&x41;", 0, api.ErrEscapeForm},
		{"&#65", 0, api.ErrEscapeForm}, {"&#x41", 0, api.ErrEscapeForm}, {"&#65 ;", 0, api.ErrEscapeForm}, {"&# 65;", 0, api.ErrEscapeForm}, {"&#+65;", 0, api.ErrEscapeForm}, {"&#-65;", 0, api.ErrEscapeForm}, {"&#6_5;", 0, api.ErrEscapeForm},
		{"&#a;", 0, api.ErrEscapeForm}, {"&#4a;", 0, api.ErrEscapeForm}, {"&#6A;", 0, api.ErrEscapeForm}, {"&#xg;", 0, api.ErrEscapeForm}, {"&#xG;", 0, api.ErrEscapeForm}, {"&#x4:;", 0, api.ErrEscapeForm}, {"&#x4/;", 0, api.ErrEscapeForm}, {"&#x4@;", 0, api.ErrEscapeForm}, {"&#x4`;", 0, api.ErrEscapeForm},
		{"&#\u0661;", 0, api.ErrEscapeForm}, {"&#\uff11;", 0, api.ErrEscapeForm},
		{"&#00000065;", 0, api.ErrEscapeForm}, {"&#12345678;", 0, api.ErrEscapeForm}, {"&#4294967361;", 0, api.ErrEscapeForm}, {"&#x00000041;", 0, api.ErrEscapeForm}, {"&#x100000041;", 0, api.ErrEscapeForm},
		{"&#0;", 0, api.ErrEscapeChar}, {"&#0000000;", 0, api.ErrEscapeChar}, {"&#x0;", 0, api.ErrEscapeChar}, {"&#8;", 0, api.ErrEscapeChar}, {"&#11;", 0, api.ErrEscapeChar}, {"&#12;", 0, api.ErrEscapeChar}, {"&#14;", 0, api.ErrEscapeChar}, {"&#31;", 0, api.ErrEscapeChar},
		{"&#55296;", 0, api.ErrEscapeChar}, {"&#xd800;", 0, api.ErrEscapeChar}, {"&#xDFFF;", 0, api.ErrEscapeChar}, {"&#xfffe;", 0, api.ErrEscapeChar}, {"&#65535;", 0, api.ErrEscapeChar}, {"&#1114112;", 0, api.ErrEscapeChar}, {"&#x110000;", 0, api.ErrEscapeChar},
		{"&#1234567;", 0, api.ErrEscapeChar}, {"&#9999999;", 0, api.ErrEscapeChar}, {"&#xfffffff;", 0, api.ErrEscapeChar}, {"&#xFFFFFFF;", 0, api.ErrEscapeChar},
		{"\r", 0, api.ErrEscapeChar}, {"a\r\n", 1, api.ErrEscapeChar}, {"&lt;\r", 4, api.ErrEscapeChar},
		// Of several things the first one is told; a reference's place is that of its &.
		{"\r<", 0, api.ErrEscapeChar}, {"<\r", 0, api.ErrEscapeForm}, {"\x80&", 0, api.ErrEscapeChar}, {"&\x80", 0, api.ErrEscapeForm}, {"&#\x80;", 0, api.ErrEscapeForm}, {"&#6\x00;", 0, api.ErrEscapeForm},
		{"ab&amp;c&#0;<", 8, api.ErrEscapeChar}, {"ab&amp;c<&#0;", 8, api.ErrEscapeForm}, {"&#0;&;", 0, api.ErrEscapeChar}, {"&;&#0;", 0, api.ErrEscapeForm}, {"&&#0;", 0, api.ErrEscapeForm}, {"&#65&#0;", 0, api.ErrEscapeForm},
	} {
		for _, value := range []bool{false, true} {
			if made, at, e := escape.Undo(r.s, value); made != "" || at != r.at || e != r.e {
				t.Errorf("P2.2: Undo(%q, %v) is %q, %d, %d, not %d, %d", r.s, value, made, at, e, r.at, r.e)
			}
		}
	}
}

// P2.2: the quote and the characters 9 and a may stand in a text, not in a value.
func TestValueAlone(t *testing.T) {
	for _, c := range []string{`"`, "\t", "\n"} {
		for ahead, want := range map[string]string{"": "", "a": "a", "\u00e9": "\u00e9", "&lt;": "<", "&#9;": "\t"} {
			s := ahead + c + "b"
			if made, n, e := escape.Undo(s, false); made != want+c+"b" || n != len(s) || e != api.OK {
				t.Errorf("P2.2: Undo(%q, false) is %q, %d, %d", s, made, n, e)
			}
			if made, at, e := escape.Undo(s, true); made != "" || at != len(ahead) || e != api.ErrEscapeChar {
				t.Errorf("P2.2: Undo(%q, true) is %q, %d, %d", s, made, at, e)
			}
		}
		if made, at, e := escape.Undo(c+"<", true); made != "" || at != 0 || e != api.ErrEscapeChar {
			t.Errorf("P2.2: Undo(%q, true) is %q, %d, %d", c+"<", made, at, e)
		}
		if made, at, e := escape.Undo(c+"<", false); made != "" || at != 1 || e != api.ErrEscapeForm {
			t.Errorf("P2.2: Undo(%q, false) is %q, %d, %d", c+"<", made, at, e)
		}
	}
	if made, n, e := escape.Undo("'", true); made != "'" || n != 1 || e != api.OK {
		t.Errorf("P2.2: an apostrophe in a value: %q, %d, %d", made, n, e)
	}
}

// P2.2: what is no character is told with its place.
func TestUndoOdd(t *testing.T) {
	for _, o := range odd {
		for _, ahead := range []string{"", "ab", "\u20ac", "&#x20ac;"} {
			for _, value := range []bool{false, true} {
				s := ahead + o + "<"
				if made, at, e := escape.Undo(s, value); made != "" || at != len(ahead) || e != api.ErrEscapeChar {
					t.Errorf("P2.2: Undo(%q, %v) is %q, %d, %d", s, value, made, at, e)
				}
			}
		}
	}
}

// P2.2: every number of up to 7 digits that is near a character's, in all the ways of writing it.
func TestEveryNumber(t *testing.T) {
	for c := int64(0); c <= 0x110100; c++ {
		hex := strconv.FormatInt(c, 16)
		for _, s := range []string{"&#" + strconv.FormatInt(c, 10) + ";", "&#x" + hex + ";", "&#x" + strings.ToUpper(hex) + ";"} {
			want, n, e := string(rune(c)), len(s), api.OK
			if !isChar(rune(c)) {
				want, n, e = "", 0, api.ErrEscapeChar
			}
			if made, m, f := escape.Undo(s, c%2 == 0); made != want || m != n || f != e {
				t.Fatalf("P2.2: Undo(%q) is %q, %d, %d", s, made, m, f)
			}
		}
	}
}

// P2.2: how many digits there may be, of either kind.
func TestDigits(t *testing.T) {
	for many := 0; many <= 20; many++ {
		for _, begin := range []string{"&#", "&#x"} {
			for _, digit := range []string{"0", "1", "5", "9"} {
				for _, end := range []string{";", "", "g", "x;", "&;"} {
					s := "a" + begin + strings.Repeat(digit, many) + end
					same(t, s)
				}
			}
		}
	}
}

// same holds Undo against the pattern.
func same(t *testing.T, s string) {
	for _, value := range []bool{false, true} {
		want, n, e := undo(s, value)
		if made, m, f := escape.Undo(s, value); made != want || m != n || f != e {
			t.Fatalf("P2.2: Undo(%q, %v) is %q, %d, %d, not %q, %d, %d", s, value, made, m, f, want, n, e)
		}
	}
}

// P2.2: every short text of what references are made of.
func TestUndoSpelt(t *testing.T) {
	spelt([]string{"&", "#", "x", "0", "9", "A", "f", ";", "<", "\r", "\n", "\x80"}, 5, func(s string) { same(t, s) })
	spelt([]string{"&", "a", "m", "p", "o", "s", ";"}, 6, func(s string) { same(t, s) })
	spelt([]string{"&", "q", "u", "o", "t", "l", "g", ";"}, 6, func(s string) { same(t, s) })
	spelt([]string{"&amp;", "&#13;", "&#xd800;", "&", "<", `"`, "\t", "\u20ac", "\x00"}, 4, func(s string) { same(t, s) })
}

// P2.1, P2.3: every short text; what is made of two texts, one behind the other, is what is made of both.
func TestEscapedSpelt(t *testing.T) {
	parts := []string{"&", "<", ">", `"`, "'", "\t", "\n", "\r", "a", ";", "#", "\u00e9", "\U0001f600", "\x80"}
	both(func(what string, call func(string) (string, bool), value bool) {
		spelt(parts, 4, func(s string) {
			made, is := call(s)
			if want, right := escaped(s, value); made != want || is != right {
				t.Fatalf("P2.1: %s(%q) is %q, %v", what, s, made, is)
			}
			if !is {
				return
			}
			if back, n, e := escape.Undo(made, value); back != s || n != len(made) || e != api.OK {
				t.Fatalf("P2.3: Undo(%s(%q)) is %q, %d, %d", what, s, back, n, e)
			}
			for i := range s {
				a, _ := call(s[:i])
				b, _ := call(s[i:])
				if a+b != made {
					t.Fatalf("P2.3: %s of %q and %q is %q and %q", what, s[:i], s[i:], a, b)
				}
			}
		})
	})
}

// P2.1 to P2.3: long texts, and one that is amiss only at its end.
func TestLong(t *testing.T) {
	s := strings.Repeat("a&\u20ac<\r", 100000)
	both(func(what string, call func(string) (string, bool), value bool) {
		made, is := call(s)
		if !is || made != strings.Repeat("a&amp;\u20ac&lt;&#13;", 100000) {
			t.Errorf("P2.1: %s of a long text: %d bytes, %v", what, len(made), is)
		}
		if back, n, e := escape.Undo(made, value); back != s || n != len(made) || e != api.OK {
			t.Errorf("P2.3: Undo of a long text: %d bytes, %d, %d", len(back), n, e)
		}
		if back, at, e := escape.Undo(made+"&", value); back != "" || at != len(made) || e != api.ErrEscapeForm {
			t.Errorf("P2.2: Undo of a long text: %d bytes, %d, %d", len(back), at, e)
		}
	})
}
