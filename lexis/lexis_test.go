package lexis_test

import (
	"math"
	"reflect"
	"regexp"
	"slices"
	"strconv"
	"strings"
	"testing"

	"incunable/api"
	"incunable/escape"
	"incunable/glyph"
	"incunable/lexis"
)

// amiss is a text with something amiss, its place, and its error.
type amiss struct {
	s  string
	at int
	e  api.Errno
}

// same tells whether two tokens are alike; an empty list is as good as none (R3).
func same(a, b lexis.Token) bool {
	return a.Kind == b.Kind && a.At == b.At && a.Name == b.Name && a.Text == b.Text && slices.Equal(a.Attrs, b.Attrs)
}

// refused asks both One and All for what is amiss in a text's first token, and All behind other tokens too.
func refused(t *testing.T, promise string, l ...amiss) {
	t.Helper()
	for _, r := range l {
		token, behind, at, e := lexis.One(r.s, 0)
		if e != r.e || at != r.at || behind != 0 || !reflect.DeepEqual(token, lexis.Token{}) {
			t.Errorf("%s: One(%.80q, 0) is %v, %d, %d at %d, not %d at %d", promise, r.s, token, behind, e, at, r.e, r.at)
		}
		if all, at, e := lexis.All(r.s); e != r.e || at != r.at || len(all) != 0 {
			t.Errorf("%s: All(%.80q) is %v, %d at %d, not %d at %d", promise, r.s, all, e, at, r.e, r.at)
		}
		ahead := `<x y="&lt;">z</x>`
		if _, _, at, e := lexis.One(ahead+r.s, len(ahead)); e != r.e || at != len(ahead)+r.at {
			t.Errorf("%s: One(%.80q, %d): %d at %d, not %d at %d", promise, ahead+r.s, len(ahead), e, at, r.e, len(ahead)+r.at)
		}
		if all, at, e := lexis.All(ahead + r.s); e != r.e || at != len(ahead)+r.at || len(all) != 0 {
			t.Errorf("%s: All(%.80q) is %v, %d at %d, not %d at %d", promise, ahead+r.s, all, e, at, r.e, len(ahead)+r.at)
		}
	}
}

// told asks One for the first token of a text, and for the same one behind and ahead of others.
func told(t *testing.T, s string, n int, want lexis.Token) {
	t.Helper()
	for _, ahead := range []string{"", "<x/>", `<x y="&lt;">`, "</\u00e9>"} {
		for _, rest := range []string{s[n:], s[n:] + "<", s[n:] + "</a>"} {
			text, at := ahead+s[:n]+rest, len(ahead)
			w := want
			w.At = at
			token, behind, place, e := lexis.One(text, at)
			if e != api.OK || place != 0 || behind != at+n || !same(token, w) {
				t.Errorf("P3.1: One(%.80q, %d) is %.80v, %d, %d at %d", text, at, token, behind, e, place)
			}
		}
	}
}

func attrs(l ...string) []api.Attr {
	var all []api.Attr
	for i := 0; i < len(l); i += 2 {
		all = append(all, api.Attr{Name: l[i], Value: l[i+1]})
	}
	return all
}

// P3.1: texts.
func TestText(t *testing.T) {
	for s, want := range map[string]string{
		"x": "x", " ": " ", "\t\n ": "\t\n ", "/": "/", "=": "=", `"`: `"`, `/a b="1"'`: `/a b="1"'`,
		"x&amp;y": "x&y", "&lt;a&gt;": "<a>", "&#13;": "\r", "&#x20ac;\u20ac": "\u20ac\u20ac", "\U0010ffff": "\U0010ffff", "]]": "]]",
	} {
		told(t, s, len(s), lexis.Token{Kind: 4, Text: want})
	}
	told(t, "x y<b/>", 3, lexis.Token{Kind: 4, Text: "x y"})
	if token, behind, at, e := lexis.One("ab<c>", 1); e != api.OK || at != 0 || behind != 2 || !same(token, lexis.Token{Kind: 4, At: 1, Text: "b"}) {
		t.Error("P3.1: a place within a text:", token, behind, at, e)
	}
	if token, behind, at, e := lexis.One("<a>", 2); e != api.ErrEscapeForm || at != 2 || behind != 0 || !same(token, lexis.Token{}) {
		t.Error("P3.1: a place within a tag:", token, behind, at, e)
	}
}

// P3.1, P3.3: ends, and the blanks ahead of their >.
func TestEnd(t *testing.T) {
	for _, b := range []string{"", " ", "\t", "\n", "\n\t  \n"} {
		for _, name := range []string{"a", "_", "a-1.b", "\u00e9", "Z\u0300"} {
			s := "</" + name + b + ">"
			told(t, s, len(s), lexis.Token{Kind: 2, Name: name})
			told(t, s+"x>", len(s), lexis.Token{Kind: 2, Name: name})
		}
	}
	refused(t, "P3.1",
		amiss{"</", 2, api.ErrLexName}, amiss{"</>", 2, api.ErrLexName}, amiss{"</ a>", 2, api.ErrLexName}, amiss{"</\ta>", 2, api.ErrLexName}, amiss{"</\n>", 2, api.ErrLexName},
		amiss{"<//a>", 2, api.ErrLexName}, amiss{"</<a>", 2, api.ErrLexName}, amiss{"</=>", 2, api.ErrLexName}, amiss{`</">`, 2, api.ErrLexName}, amiss{"</1>", 2, api.ErrLexName}, amiss{"</a&>", 2, api.ErrLexName}, amiss{"</-a>", 2, api.ErrLexName}, amiss{"</a:b>", 2, api.ErrLexName}, amiss{"</a\r>", 2, api.ErrLexName}, amiss{"</\x80>", 2, api.ErrLexName}, amiss{"</a\xc3>", 2, api.ErrLexName},
		amiss{"</1", 2, api.ErrLexName}, amiss{"</1 b=", 2, api.ErrLexName},
		amiss{"</a", 3, api.ErrLexForm}, amiss{"</a ", 4, api.ErrLexForm}, amiss{"</a \n\t", 6, api.ErrLexForm}, amiss{"</ab", 4, api.ErrLexForm}, amiss{"</\u00e9", 4, api.ErrLexForm},
		amiss{"</a/>", 3, api.ErrLexForm}, amiss{"</a />", 4, api.ErrLexForm}, amiss{"</a<b>", 3, api.ErrLexForm}, amiss{"</a <b>", 4, api.ErrLexForm}, amiss{"</a=>", 3, api.ErrLexForm}, amiss{`</a">`, 3, api.ErrLexForm},
		amiss{"</a b>", 4, api.ErrLexForm}, amiss{`</a b="1">`, 4, api.ErrLexForm}, amiss{"</a  \x80>", 5, api.ErrLexForm}, amiss{"</a \r>", 4, api.ErrLexForm}, amiss{"</a \v>", 4, api.ErrLexForm}, amiss{"</a \u00a0>", 4, api.ErrLexForm},
	)
}

// P3.1, P3.3: beginnings, with > and with />, and the blanks ahead of these.
func TestBeginning(t *testing.T) {
	for _, b := range []string{"", " ", "\t", "\n", "\n\t  \n"} {
		for close, kind := range map[string]int{">": 1, "/>": 3} {
			for _, name := range []string{"a", "_", "a-1.b", "\u00e9", "Z\u0300"} {
				s := "<" + name + b + close
				told(t, s, len(s), lexis.Token{Kind: kind, Name: name})
				told(t, s+"x/>", len(s), lexis.Token{Kind: kind, Name: name})
				s = "<" + name + ` b="1"` + b + close
				told(t, s, len(s), lexis.Token{Kind: kind, Name: name, Attrs: attrs("b", "1")})
				s = "<" + name + ` d="" b="1"` + b + close
				told(t, s, len(s), lexis.Token{Kind: kind, Name: name, Attrs: attrs("b", "1", "d", "")})
			}
		}
	}
	refused(t, "P3.1",
		amiss{"<", 1, api.ErrLexName}, amiss{"<>", 1, api.ErrLexName}, amiss{"< a>", 1, api.ErrLexName}, amiss{"<\na>", 1, api.ErrLexName}, amiss{"<\t", 1, api.ErrLexName}, amiss{"<<a>", 1, api.ErrLexName}, amiss{"<=>", 1, api.ErrLexName}, amiss{`<"a">`, 1, api.ErrLexName},
		amiss{"<1>", 1, api.ErrLexName}, amiss{"<!--x-->", 1, api.ErrLexName}, amiss{"<?a?>", 1, api.ErrLexName}, amiss{"<![CDATA[x]]>", 1, api.ErrLexName}, amiss{"<a:b>", 1, api.ErrLexName}, amiss{"<a&amp;>", 1, api.ErrLexName}, amiss{"<a'>", 1, api.ErrLexName}, amiss{"<a\r>", 1, api.ErrLexName}, amiss{"<\x80>", 1, api.ErrLexName}, amiss{"<a\xff/>", 1, api.ErrLexName}, amiss{"<a\x00", 1, api.ErrLexName},
		amiss{"<a", 2, api.ErrLexForm}, amiss{"<abc", 4, api.ErrLexForm}, amiss{"<a ", 3, api.ErrLexForm}, amiss{"<a\t", 3, api.ErrLexForm}, amiss{"<a\n", 3, api.ErrLexForm}, amiss{"<a \t\n ", 6, api.ErrLexForm}, amiss{`<a b="1"`, 8, api.ErrLexForm}, amiss{`<a b="1" `, 9, api.ErrLexForm}, amiss{`<a b="1"` + "\n\n", 10, api.ErrLexForm},
		amiss{"<a<b>", 2, api.ErrLexForm}, amiss{"<a=>", 2, api.ErrLexForm}, amiss{`<a"1">`, 2, api.ErrLexForm}, amiss{`<a b="1"c="2">`, 8, api.ErrLexForm}, amiss{`<a b="1""2">`, 8, api.ErrLexForm}, amiss{`<a b="1"="2">`, 8, api.ErrLexForm}, amiss{`<a b="1"<`, 8, api.ErrLexForm}, amiss{`<a b="1"` + "\r>", 8, api.ErrLexForm},
	)
}

// P3.1: a slash that is no end of a beginning: without blanks ahead of it, and behind blanks.
func TestSlash(t *testing.T) {
	refused(t, "P3.1",
		amiss{"<a/", 2, api.ErrLexForm}, amiss{"<a/ >", 2, api.ErrLexForm}, amiss{"<a//>", 2, api.ErrLexForm}, amiss{"<a/b>", 2, api.ErrLexForm}, amiss{"<a/<", 2, api.ErrLexForm}, amiss{`<a/b="1">`, 2, api.ErrLexForm},
		amiss{`<a b="1"/`, 8, api.ErrLexForm}, amiss{`<a b="1"/ >`, 8, api.ErrLexForm}, amiss{`<a b="1"//>`, 8, api.ErrLexForm},
		amiss{"<a /", 3, api.ErrLexName}, amiss{"<a / >", 3, api.ErrLexName}, amiss{"<a //>", 3, api.ErrLexName}, amiss{"<a /b>", 3, api.ErrLexName}, amiss{"<a \t\n/<", 5, api.ErrLexName}, amiss{`<a /b="1">`, 3, api.ErrLexName},
		amiss{`<a b="1" /`, 9, api.ErrLexName}, amiss{`<a b="1" / >`, 9, api.ErrLexName}, amiss{`<a b="1"` + "\n//>", 9, api.ErrLexName}, amiss{`<a b="1" /c="2">`, 9, api.ErrLexName},
		amiss{"<a b/>", 4, api.ErrLexForm}, amiss{"<a b=/>", 5, api.ErrLexForm}, amiss{`<a b/="1">`, 4, api.ErrLexForm},
	)
}

// P3.1: attributes, which rise by Name in whatever order they stand.
func TestAttrs(t *testing.T) {
	for _, r := range []struct {
		s     string
		attrs []api.Attr
	}{
		{`b="1"`, attrs("b", "1")}, {`b=""`, attrs("b", "")}, {`a="a"`, attrs("a", "a")},
		{`b="2" a="1"`, attrs("a", "1", "b", "2")}, {"a=\"1\"\n\t b=\"2\"", attrs("a", "1", "b", "2")},
		{`c="3" a="1" b="2"`, attrs("a", "1", "b", "2", "c", "3")}, {`b="" a="" c=""`, attrs("a", "", "b", "", "c", "")},
		{`ab="2" a="1" B="0" _="9" b="3"`, attrs("B", "0", "_", "9", "a", "1", "ab", "2", "b", "3")},
		{"\U00010000=\"4\" \ufffd=\"3\" \u00e9=\"2\" z=\"1\"", attrs("z", "1", "\u00e9", "2", "\ufffd", "3", "\U00010000", "4")},
		{`a2="" a10="" a1="" a-="" a.=""`, attrs("a-", "", "a.", "", "a1", "", "a10", "", "a2", "")},
		{`b=" = / ' b = "`, attrs("b", " = / ' b = ")}, {`b="&lt;a b=&quot;&#9;&#10;&#13;&quot;/&gt;&amp;&apos;"`, attrs("b", "<a b=\"\t\n\r\"/>&'")}, {`b="&#x41;"`, attrs("b", "A")},
		{"b=\"\u00e9\U0010ffff\"", attrs("b", "\u00e9\U0010ffff")},
	} {
		for close, kind := range map[string]int{">": 1, "/>": 3, " >": 1, "\n/>": 3} {
			s := "<a " + r.s + close
			told(t, s, len(s), lexis.Token{Kind: kind, Name: "a", Attrs: r.attrs})
		}
	}
}

// P3.1: what is amiss with an attribute's Name and form.
func TestAttrAmiss(t *testing.T) {
	refused(t, "P3.1",
		amiss{`<a ="1">`, 3, api.ErrLexName}, amiss{`<a "1">`, 3, api.ErrLexName}, amiss{"<a <b>", 3, api.ErrLexName}, amiss{"<a <", 3, api.ErrLexName}, amiss{"<a  =", 4, api.ErrLexName}, amiss{`<a 1="1">`, 3, api.ErrLexName}, amiss{`<a -b="1">`, 3, api.ErrLexName}, amiss{`<a b:c="1">`, 3, api.ErrLexName}, amiss{`<a b&="1">`, 3, api.ErrLexName}, amiss{`<a b'c="1">`, 3, api.ErrLexName}, amiss{"<a \rb=\"1\">", 3, api.ErrLexName}, amiss{"<a \x80=\"1\">", 3, api.ErrLexName}, amiss{"<a b\xc0\x80=\"1\">", 3, api.ErrLexName},
		amiss{"<a b", 4, api.ErrLexForm}, amiss{"<a b>", 4, api.ErrLexForm}, amiss{"<a b c>", 4, api.ErrLexForm}, amiss{`<a b ="1">`, 4, api.ErrLexForm}, amiss{"<a b\t", 4, api.ErrLexForm}, amiss{"<a b\n=", 4, api.ErrLexForm}, amiss{`<a b"1">`, 4, api.ErrLexForm}, amiss{"<a b<", 4, api.ErrLexForm}, amiss{"<a \t\n bcd>", 9, api.ErrLexForm},
		amiss{"<a b=", 5, api.ErrLexForm}, amiss{"<a b=1>", 5, api.ErrLexForm}, amiss{"<a b='1'>", 5, api.ErrLexForm}, amiss{`<a b= "1">`, 5, api.ErrLexForm}, amiss{"<a b=>", 5, api.ErrLexForm}, amiss{`<a b=="1">`, 5, api.ErrLexForm}, amiss{"<a b=<", 5, api.ErrLexForm}, amiss{"<a b=\n\"1\">", 5, api.ErrLexForm}, amiss{`<a b=&quot;1">`, 5, api.ErrLexForm},
		amiss{`<a b="`, 6, api.ErrLexForm}, amiss{`<a b="1`, 7, api.ErrLexForm}, amiss{`<a b="1>`, 8, api.ErrLexForm}, amiss{`<a b="1/><b>x</b>`, 17, api.ErrLexForm}, amiss{`<a b="1'>`, 9, api.ErrLexForm}, amiss{`<a b="&quot;>`, 13, api.ErrLexForm}, amiss{`<a b="1" c="2>`, 14, api.ErrLexForm}, amiss{`<a b="1 c="2">`, 11, api.ErrLexForm},
		amiss{`<a b="1" b="2">`, 9, api.ErrLexTwice}, amiss{`<a b="1" b="1"/>`, 9, api.ErrLexTwice}, amiss{`<a b="" c="" b="">`, 13, api.ErrLexTwice}, amiss{`<a c="" b="" c="">`, 13, api.ErrLexTwice}, amiss{"<a b=\"1\"\n\n b=\"2\">", 11, api.ErrLexTwice}, amiss{"<a \u00e9=\"\" \u00e9=\"\">", 9, api.ErrLexTwice},
	)
	told(t, `<a a="" b="" B="" bb="">`, 24, lexis.Token{Kind: 1, Name: "a", Attrs: attrs("B", "", "a", "", "b", "", "bb", "")})
}

// P3.1: what escape refuses, in a text and in a value, with its place.
func TestEscapes(t *testing.T) {
	for _, r := range []amiss{
		{"&", 0, api.ErrEscapeForm}, {"x&y", 1, api.ErrEscapeForm}, {"&b;", 0, api.ErrEscapeForm}, {"&amp", 0, api.ErrEscapeForm}, {"\u20ac&#;", 3, api.ErrEscapeForm}, {"&lt;&#x;", 4, api.ErrEscapeForm}, {"&#00000065;", 0, api.ErrEscapeForm},
		{">", 0, api.ErrEscapeForm}, {"a>b", 1, api.ErrEscapeForm}, {"]]>", 2, api.ErrEscapeForm},
		{"&#0;", 0, api.ErrEscapeChar}, {"ab&#xd800;", 2, api.ErrEscapeChar}, {"\r", 0, api.ErrEscapeChar}, {"y\r", 1, api.ErrEscapeChar}, {"\x00", 0, api.ErrEscapeChar}, {"&amp;\x80", 5, api.ErrEscapeChar}, {"a\xff", 1, api.ErrEscapeChar}, {"\ufffe", 0, api.ErrEscapeChar}, {"ab\xc0\x80", 2, api.ErrEscapeChar},
		{"&\r", 0, api.ErrEscapeForm}, {"\r&", 0, api.ErrEscapeChar}, {"&&#0;", 0, api.ErrEscapeForm}, {"&#0;&", 0, api.ErrEscapeChar},
	} {
		refused(t, "P3.1",
			r, amiss{r.s + "<a>", r.at, r.e}, amiss{r.s + "</", r.at, r.e},
			amiss{`<a b="` + r.s + `">`, 6 + r.at, r.e}, amiss{`<a b="` + r.s + `"/>`, 6 + r.at, r.e}, amiss{`<a b="" c="` + r.s + `"`, 11 + r.at, r.e},
		)
	}
	refused(t, "P3.1",
		amiss{`<a b="<">`, 6, api.ErrEscapeForm}, amiss{`<a b="a<b/>">`, 7, api.ErrEscapeForm}, amiss{"<a b=\"\t\">", 6, api.ErrEscapeChar}, amiss{"<a b=\"x\n\">", 7, api.ErrEscapeChar}, amiss{"<a b=\" \n<\">", 7, api.ErrEscapeChar},
	)
}

// P3.1: MaxText bytes of a text and of a value, and one more; what counts is what the references stand for.
func TestLong(t *testing.T) {
	for _, r := range []struct {
		one  string // what stands for one byte in a text and in a value
		byte string
	}{{"x", "x"}, {"&lt;", "<"}, {"&quot;", `"`}, {"&#13;", "\r"}, {"&#x0000041;", "A"}} {
		s, want := strings.Repeat(r.one, api.MaxText), strings.Repeat(r.byte, api.MaxText)
		told(t, s, len(s), lexis.Token{Kind: 4, Text: want})
		told(t, s+"<a/>", len(s), lexis.Token{Kind: 4, Text: want})
		tag := `<a b="` + s + `" c="` + s + `">`
		told(t, tag, len(tag), lexis.Token{Kind: 1, Name: "a", Attrs: attrs("b", want, "c", want)})
		s += r.one
		refused(t, "P3.1",
			amiss{s, 0, api.ErrLexLong}, amiss{s + s, 0, api.ErrLexLong}, amiss{s + "<a>", 0, api.ErrLexLong}, amiss{s + "<", 0, api.ErrLexLong},
			amiss{`<a b="` + s + `">`, 5, api.ErrLexLong}, amiss{`<a b="` + s + `"/>`, 5, api.ErrLexLong}, amiss{"<a b=\"\"\n\tcd=\"" + s + `"`, 12, api.ErrLexLong},
			// What cannot be undone has no length; a value without its end has no form.
			amiss{s + "&", len(s), api.ErrEscapeForm}, amiss{`<a b="` + s + `<">`, 6 + len(s), api.ErrEscapeForm}, amiss{`<a b="` + s, 6 + len(s), api.ErrLexForm},
		)
	}
	half := strings.Repeat("\u00e9", api.MaxText/2)
	told(t, half, len(half), lexis.Token{Kind: 4, Text: half})
	refused(t, "P3.1", amiss{half + "x", 0, api.ErrLexLong}, amiss{`<a b="` + half + `x">`, 5, api.ErrLexLong})
}

// P3.1: a name of MaxName bytes, and of one more.
func TestLongName(t *testing.T) {
	for _, name := range []string{strings.Repeat("n", api.MaxName), strings.Repeat("\u00e9", api.MaxName/2)} {
		s := "</" + name + ">"
		told(t, s, len(s), lexis.Token{Kind: 2, Name: name})
		s = "<" + name + " " + name + `="">`
		told(t, s, len(s), lexis.Token{Kind: 1, Name: name, Attrs: attrs(name, "")})
		refused(t, "P3.1",
			amiss{"</" + name + "n>", 2, api.ErrLexName}, amiss{"<" + name + "n/>", 1, api.ErrLexName}, amiss{"<" + name + "n", 1, api.ErrLexName},
			amiss{"<a " + name + `n="">`, 3, api.ErrLexName}, amiss{"<a " + name + "n", 3, api.ErrLexName},
		)
	}
}

// P3.1: MaxAttrs attributes, and one more, that is also there twice, or no name.
func TestManyAttrs(t *testing.T) {
	s, rising := "<a", []api.Attr{}
	for i := range api.MaxAttrs {
		name := "n" + strconv.Itoa(50-i)
		s += " " + name + `="` + strconv.Itoa(i) + `"`
		rising = append([]api.Attr{{Name: name, Value: strconv.Itoa(i)}}, rising...)
	}
	for close, kind := range map[string]int{">": 1, "/>": 3, "\n>": 1, " />": 3} {
		told(t, s+close, len(s+close), lexis.Token{Kind: kind, Name: "a", Attrs: rising})
	}
	at := len(s) + 1
	refused(t, "P3.1",
		amiss{s + ` a="">`, at, api.ErrLexMany}, amiss{s + ` n50="">`, at, api.ErrLexMany}, amiss{s + ` n31="">`, at, api.ErrLexMany}, amiss{s + " a", at, api.ErrLexMany}, amiss{s + " a=1", at, api.ErrLexMany}, amiss{s + ` a="&">`, at, api.ErrLexMany}, amiss{s + ` a="`, at, api.ErrLexMany},
		amiss{s + ` 1="">`, at, api.ErrLexName}, amiss{s + " / >", at, api.ErrLexName}, amiss{s + " <", at, api.ErrLexName},
		amiss{s + ` a="" b="">`, at, api.ErrLexMany}, amiss{s + `a="">`, at - 1, api.ErrLexForm}, amiss{s, at - 1, api.ErrLexForm}, amiss{s + " ", at, api.ErrLexForm}, amiss{s + "/ ", at - 1, api.ErrLexForm},
	)
	less := s[:strings.LastIndex(s, " ")]
	refused(t, "P3.1", amiss{less + ` n50="">`, len(less) + 1, api.ErrLexTwice})
}

// P3.1: of several things amiss the first one is told; of an attribute what its Name, then its form, then its Value is amiss with.
func TestFirst(t *testing.T) {
	refused(t, "P3.1",
		amiss{"<1 b=1>&", 1, api.ErrLexName}, amiss{"<a b=1 b=\"&\"", 5, api.ErrLexForm}, amiss{"</1 b>", 2, api.ErrLexName}, amiss{"</a b&", 4, api.ErrLexForm},
		amiss{"x&<a", 1, api.ErrEscapeForm}, amiss{"<a\x80&", 1, api.ErrLexName},
		amiss{"<a 1", 3, api.ErrLexName}, amiss{"<a 1=1>", 3, api.ErrLexName}, amiss{`<a 1="&">`, 3, api.ErrLexName}, amiss{`<a 1="`, 3, api.ErrLexName},
		amiss{`<a b="" b`, 8, api.ErrLexTwice}, amiss{`<a b="" b=1>`, 8, api.ErrLexTwice}, amiss{`<a b="" b="&">`, 8, api.ErrLexTwice}, amiss{`<a b="" b="x`, 8, api.ErrLexTwice},
		amiss{`<a b="&`, 7, api.ErrLexForm}, amiss{"<a b=\"\x80<", 8, api.ErrLexForm},
		amiss{`<a b="&" 1="">`, 6, api.ErrEscapeForm}, amiss{`<a b="&" b="">`, 6, api.ErrEscapeForm}, amiss{`<a b="&"c="">`, 6, api.ErrEscapeForm}, amiss{`<a b="&"`, 6, api.ErrEscapeForm}, amiss{"<a b=\"\r\"/", 6, api.ErrEscapeChar}, amiss{`<a c="" b="&" c="">`, 11, api.ErrEscapeForm},
		amiss{`<a b=""c="" b="&">`, 7, api.ErrLexForm}, amiss{`<a b="" / b="">`, 8, api.ErrLexName},
	)
	for _, r := range []amiss{
		{"x<a>y&</b", 5, api.ErrEscapeForm}, {"x<a>y</b", 8, api.ErrLexForm}, {"<a>\r<1>", 3, api.ErrEscapeChar}, {"<a><1>\r", 4, api.ErrLexName}, {"<a></a></>&", 9, api.ErrLexName}, {`<a b="1"/>x<a b=1>`, 16, api.ErrLexForm}, {`<a b="1"/>x<a b="1" b="2">`, 20, api.ErrLexTwice}, {"x<", 2, api.ErrLexName}, {"x</", 3, api.ErrLexName}, {"x<a", 3, api.ErrLexForm}, {"<a>>", 3, api.ErrEscapeForm},
	} {
		if all, at, e := lexis.All(r.s); e != r.e || at != r.at || len(all) != 0 {
			t.Errorf("P3.2: All(%q) is %v, %d at %d", r.s, all, e, at)
		}
	}
}

// P3.1: places at which there is nothing.
func TestPlaces(t *testing.T) {
	for _, s := range []string{"", "x", "<a>", "<a b=1>", "\u20ac"} {
		for _, at := range []int{-1, -2, math.MinInt, len(s), len(s) + 1, math.MaxInt} {
			token, behind, bad, e := lexis.One(s, at)
			if e != api.ErrLexForm || bad != at || behind != 0 || !same(token, lexis.Token{}) {
				t.Errorf("P3.1: One(%q, %d) is %v, %d, %d at %d", s, at, token, behind, e, bad)
			}
		}
	}
}

// P3.2: all tokens of a text.
func TestAll(t *testing.T) {
	for _, r := range []struct {
		s    string
		want []lexis.Token
	}{
		{"", nil},
		{"x", []lexis.Token{{Kind: 4, Text: "x"}}},
		{`<a b="1"/>x`, []lexis.Token{{Kind: 3, Name: "a", Attrs: attrs("b", "1")}, {Kind: 4, At: 10, Text: "x"}}},
		{"<a><a></b>", []lexis.Token{{Kind: 1, Name: "a"}, {Kind: 1, At: 3, Name: "a"}, {Kind: 2, At: 6, Name: "b"}}},
		{"x&amp;y</a \n><c/>\n<d\t/>", []lexis.Token{{Kind: 4, Text: "x&y"}, {Kind: 2, At: 7, Name: "a"}, {Kind: 3, At: 13, Name: "c"}, {Kind: 4, At: 17, Text: "\n"}, {Kind: 3, At: 18, Name: "d"}}},
		{`<a z="1" b="2">` + "\u20ac" + `<a c="3">`, []lexis.Token{{Kind: 1, Name: "a", Attrs: attrs("b", "2", "z", "1")}, {Kind: 4, At: 15, Text: "\u20ac"}, {Kind: 1, At: 18, Name: "a", Attrs: attrs("c", "3")}}},
	} {
		if all, at, e := lexis.All(r.s); e != api.OK || at != 0 || !slices.EqualFunc(all, r.want, same) {
			t.Errorf("P3.2: All(%q) is %v, %d at %d", r.s, all, e, at)
		}
	}
	many := 20000
	all, at, e := lexis.All(strings.Repeat(`<a b="1">x</a>`, many))
	if e != api.OK || at != 0 || len(all) != 3*many || all[3*many-1].At != 14*many-4 {
		t.Errorf("P3.2: All of many: %d tokens, %d at %d", len(all), e, at)
	}
}

// R6: what a call told is the caller's own.
func TestOwn(t *testing.T) {
	s := `<a c="3" b="2"/><a c="3" b="2"/>`
	all, _, _ := lexis.All(s)
	one, _, _, _ := lexis.One(s, 0)
	if len(all) != 2 || len(all[0].Attrs) != 2 || len(one.Attrs) != 2 {
		t.Fatal("P3.2:", all, one)
	}
	all[0].Attrs[0] = api.Attr{Name: "x"}
	all[0].Attrs = append(all[0].Attrs, api.Attr{Name: "y"})
	again, _, _ := lexis.All(s)
	for _, token := range []lexis.Token{all[1], one, again[0], again[1]} {
		if !slices.Equal(token.Attrs, attrs("b", "2", "c", "3")) {
			t.Error("R6:", token)
		}
	}
}

// The patterns by which the tests say P3.1 anew.
var (
	textForm  = regexp.MustCompile(`^[^<]+`)
	wordForm  = regexp.MustCompile("^</?[^ \t\n=></\"]*")
	endForm   = regexp.MustCompile("^[ \t\n]*>")
	closeForm = regexp.MustCompile("^[ \t\n]*/?>")
	overForm  = regexp.MustCompile("^[ \t\n]*$|^[^ \t\n]") // an attribute cannot begin so
	nameForm  = regexp.MustCompile("^[ \t\n]+[^ \t\n=></\"]*")
	valueForm = regexp.MustCompile(`^="[^"]*"`)
	blankForm = regexp.MustCompile("^[ \t\n]*")
)

// undo is escape.Undo of what begins at a place, with the limit of which the place from is told.
func undo(s string, value bool, at, from int) (string, int, api.Errno) {
	made, bad, e := escape.Undo(s, value)
	switch {
	case e != api.OK:
		return "", at + bad, e
	case len(made) > 1500:
		return "", from, api.ErrLexLong
	}
	return made, 0, api.OK
}

// one says P3.1 anew, for places that there are.
func one(s string, at int) (lexis.Token, int, int, api.Errno) {
	if m := textForm.FindString(s[at:]); m != "" {
		made, bad, e := undo(m, false, at, at)
		if e != api.OK {
			return lexis.Token{}, 0, bad, e
		}
		return lexis.Token{Kind: 4, At: at, Text: made}, at + len(m), 0, api.OK
	}
	m := wordForm.FindString(s[at:])
	name := strings.TrimLeft(m, "</")
	p := at + len(m)
	if !glyph.Name(name) {
		return lexis.Token{}, 0, p - len(name), api.ErrLexName
	}
	if strings.HasPrefix(m, "</") {
		close := endForm.FindString(s[p:])
		if close == "" {
			return lexis.Token{}, 0, p + len(blankForm.FindString(s[p:])), api.ErrLexForm
		}
		return lexis.Token{Kind: 2, At: at, Name: name}, p + len(close), 0, api.OK
	}
	values := map[string]string{}
	for {
		if close := closeForm.FindString(s[p:]); close != "" {
			token := lexis.Token{Kind: 1, At: at, Name: name}
			if strings.Contains(close, "/") {
				token.Kind = 3
			}
			for n, v := range values {
				token.Attrs = append(token.Attrs, api.Attr{Name: n, Value: v})
			}
			slices.SortFunc(token.Attrs, func(a, b api.Attr) int { return strings.Compare(a.Name, b.Name) })
			return token, p + len(close), 0, api.OK
		}
		next, bad, e := attribute(s, p, values)
		if e != api.OK {
			return lexis.Token{}, 0, bad, e
		}
		p = next
	}
}

// attribute says anew what an attribute at a place is, adds it to those ahead of it, and tells the place behind it.
func attribute(s string, p int, values map[string]string) (int, int, api.Errno) {
	if overForm.MatchString(s[p:]) {
		return 0, p + len(blankForm.FindString(s[p:])), api.ErrLexForm
	}
	m := nameForm.FindString(s[p:])
	name := strings.TrimLeft(m, " \t\n")
	p += len(m)
	_, twice := values[name]
	switch {
	case !glyph.Name(name):
		return 0, p - len(name), api.ErrLexName
	case len(values) == 20:
		return 0, p - len(name), api.ErrLexMany
	case twice:
		return 0, p - len(name), api.ErrLexTwice
	}
	form := valueForm.FindString(s[p:])
	switch {
	case form == "" && strings.HasPrefix(s[p:], `="`):
		return 0, len(s), api.ErrLexForm
	case form == "" && strings.HasPrefix(s[p:], "="):
		return 0, p + 1, api.ErrLexForm
	case form == "":
		return 0, p, api.ErrLexForm
	}
	made, bad, e := undo(form[2:len(form)-1], true, p+2, p+1)
	if e != api.OK {
		return 0, bad, e
	}
	values[name] = made
	return p + len(form), 0, api.OK
}

// held holds One, at every place of a text, and All against what is said anew.
func held(t *testing.T, s string) {
	var want []lexis.Token
	wantBad, wantE, begins := 0, api.OK, 0
	for at := range len(s) {
		token, behind, bad, e := one(s, at)
		if got, gotBehind, gotBad, gotE := lexis.One(s, at); !same(got, token) || gotBehind != behind || gotBad != bad || gotE != e {
			t.Fatalf("P3.1: One(%q, %d) is %v, %d, %d, %d, not %v, %d, %d, %d", s, at, got, gotBehind, gotBad, gotE, token, behind, bad, e)
		}
		if at == begins && wantE == api.OK {
			want, begins, wantBad, wantE = append(want, token), behind, bad, e
		}
	}
	if wantE != api.OK {
		want = nil
	}
	if all, bad, e := lexis.All(s); !slices.EqualFunc(all, want, same) || bad != wantBad || e != wantE {
		t.Fatalf("P3.2, P3.3: All(%q) is %v, %d, %d, not %v, %d, %d", s, all, bad, e, want, wantBad, wantE)
	}
}

// spelt calls f with every text of up to most of the given parts.
func spelt(s string, parts []string, most int, f func(s string)) {
	f(s)
	if most == 0 {
		return
	}
	for _, p := range parts {
		spelt(s+p, parts, most-1, f)
	}
}

// P3.1 to P3.3: every short text of what tags are made of, and of what stands behind the beginning of one.
func TestSpelt(t *testing.T) {
	bytes := []string{"<", "/", ">", " ", "\n", "=", `"`, "a", "1", "&", "\x80"}
	for begin, most := range map[string]int{"": 4, "<": 3, "</a": 3, "<a": 4, "<a ": 4, "<a b": 3, "<a b=": 3, `<a b="`: 4, `<a b="1"`: 4, `<a b="1" `: 4, "<a>": 3} {
		spelt(begin, bytes, most, func(s string) { held(t, s) })
	}
	bits := []string{"<a", "</", "b", `b="&lt;"`, ` b=""`, ` c="&"`, "\t", "/", ">", "/>", "x", "&#9;", "\r"}
	spelt("", bits, 4, func(s string) { held(t, s) })
}

// P3.3: where one token ends the next one begins, and One tells the same as All; a place behind the last one is the end.
func TestSideBySide(t *testing.T) {
	parts := []string{"<a>", `<b c="1" a="&gt;">`, "</a\n>", "<d/>", "<d \t/>", "x", "&amp;", "\u20ac\n"}
	spelt("", parts, 4, func(s string) {
		all, _, e := lexis.All(s)
		if e != api.OK {
			t.Fatalf("P3.2: All(%q): %d", s, e)
		}
		at := 0
		for _, token := range all {
			again, behind, bad, e := lexis.One(s, at)
			if token.At != at || !same(token, again) || behind <= at || bad != 0 || e != api.OK {
				t.Fatalf("P3.3: of %q, at %d: %v, %v, %d, %d at %d", s, at, token, again, behind, e, bad)
			}
			at = behind
		}
		if at != len(s) {
			t.Fatalf("P3.3: the tokens of %q end at %d", s, at)
		}
	})
}

// P3.3: however many blanks stand ahead of > (and of />), the token is alike, but for where it ends.
func TestBlanks(t *testing.T) {
	for _, tag := range []string{"<a", "</a", `<a b="1"`, `<b c="&lt;" b="2"`} {
		for _, close := range []string{">", "/>"} {
			if close == "/>" && tag == "</a" {
				continue
			}
			want, n, _, e := lexis.One(tag+close, 0)
			if e != api.OK || n != len(tag+close) {
				t.Fatalf("P3.1: One(%q, 0): %d, %d", tag+close, n, e)
			}
			spelt("", []string{" ", "\t", "\n"}, 5, func(b string) {
				s := tag + b + close
				if token, behind, bad, e := lexis.One(s, 0); e != api.OK || bad != 0 || behind != len(s) || !same(token, want) {
					t.Fatalf("P3.3: One(%q, 0) is %v, %d, %d at %d", s, token, behind, e, bad)
				}
			})
			s := tag + strings.Repeat(" ", 100000) + close
			if token, behind, _, e := lexis.One(s, 0); e != api.OK || behind != len(s) || !same(token, want) {
				t.Fatalf("P3.3: with many blanks: %v, %d, %d", token, behind, e)
			}
		}
	}
}
