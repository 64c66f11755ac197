package parse_test

import (
	"fmt"
	"math"
	"slices"
	"strconv"
	"strings"
	"testing"

	"incunable/api"
	"incunable/glyph"
	"incunable/lexis"
	"incunable/parse"
)

// amiss is a text with something amiss, its place, and its error.
type amiss struct {
	s  string
	at int
	e  api.Errno
}

func attrs(l ...string) []api.Attr {
	var all []api.Attr
	for i := 0; i < len(l); i += 2 {
		all = append(all, api.Attr{Name: l[i], Value: l[i+1]})
	}
	return all
}

func el(level int, name string, l ...string) api.Item {
	return api.Item{Level: level, Kind: api.Element, Name: name, Attrs: attrs(l...)}
}

func tx(level int, s string) api.Item { return api.Item{Level: level, Kind: api.Text, Text: s} }

func row(l ...api.Item) []api.Item { return l }

// joined tells l and more in memory of its own, as rows of the tests are built on each other.
func joined(l []api.Item, more ...api.Item) []api.Item { return append(slices.Clone(l), more...) }

// chain tells elements, one in the other, at Levels 0 to many - 1.
func chain(many int) []api.Item {
	var l []api.Item
	for level := range many {
		l = append(l, el(level, "d"))
	}
	return l
}

// brief tells the beginning of what may be long.
func brief(l []api.Item) string { return fmt.Sprintf("%.200q", fmt.Sprint(l)) }

// same tells whether two items are alike; an empty list is as good as none (R3).
func same(a, b api.Item) bool {
	return a.Level == b.Level && a.Kind == b.Kind && a.Name == b.Name && a.Text == b.Text && slices.Equal(a.Attrs, b.Attrs)
}

func told(t *testing.T, s string, want ...api.Item) {
	t.Helper()
	l, at, e := parse.Parse(s)
	if e != api.OK || at != 0 || !slices.EqualFunc(l, want, same) {
		t.Errorf("P4.1: Parse(%.80q) is %s, %d at %d, not %s", s, brief(l), e, at, brief(want))
	}
	follows(t, l)
}

func refused(t *testing.T, l ...amiss) {
	t.Helper()
	for _, r := range l {
		if l, at, e := parse.Parse(r.s); e != r.e || at != r.at || len(l) != 0 {
			t.Errorf("P4.1: Parse(%.80q) is %s, %d at %d, not %d at %d", r.s, brief(l), e, at, r.e, r.at)
		}
	}
}

func checked(t *testing.T, l []api.Item, k int, e api.Errno) {
	t.Helper()
	if gotK, gotE := parse.Check(l); gotK != k || gotE != e {
		t.Errorf("P4.2: Check(%s) is %d, %d, not %d, %d", brief(l), gotK, gotE, k, e)
	}
}

// follows asks for P4.4 of a document.
func follows(t *testing.T, l []api.Item) {
	t.Helper()
	if k, e := parse.Check(l); k != 0 || e != api.OK {
		t.Errorf("P4.4: Check(%s) is %d, %d", brief(l), k, e)
	}
	for k := range l {
		p := parse.Parent(l, k)
		switch {
		case k == 0 && p != -1:
			t.Errorf("P4.3: the root's Parent is %d", p)
		case k > 0 && (p < 0 || p >= k || l[p].Kind != api.Element || l[p].Level != l[k].Level-1 || k >= parse.End(l, p)):
			t.Errorf("P4.4: Parent(%s, %d) is %d", brief(l), k, p)
		}
	}
	if len(l) > 0 && parse.End(l, 0) != len(l) {
		t.Errorf("P4.3: the root's End is %d of %d", parse.End(l, 0), len(l))
	}
}

// P4.1: ordinary documents.
func TestParse(t *testing.T) {
	told(t, "<a/>", el(0, "a"))
	told(t, "<a></a>", el(0, "a"))
	told(t, "<a\n></a\t >", el(0, "a"))
	told(t, "<a>x<b/></a>", el(0, "a"), tx(1, "x"), el(1, "b"))
	told(t, "<a> </a>", el(0, "a"), tx(1, " "))
	told(t, `<a z="1" b="&lt;"/>`, el(0, "a", "b", "<", "z", "1"))
	told(t, `<a k=""><k a="2"/></a>`, el(0, "a", "k", ""), el(1, "k", "a", "2"))
	told(t, "<a>x&amp;y<b>\n</b>z</a>", el(0, "a"), tx(1, "x&y"), el(1, "b"), tx(2, "\n"), tx(1, "z"))
	told(t, "<a><a><a/></a><a/></a>", el(0, "a"), el(1, "a"), el(2, "a"), el(1, "a"))
	told(t, "<a><b></b><c><d/>x</c></a>", el(0, "a"), el(1, "b"), el(1, "c"), el(2, "d"), tx(2, "x"))
	told(t, "<\u00e9>\u20ac&#13;</\u00e9>", el(0, "\u00e9"), tx(1, "\u20ac\r"))
	told(t, `<a k="1">x<b k="2"/><c k="3">y</c></a>`, el(0, "a", "k", "1"), tx(1, "x"), el(1, "b", "k", "2"), el(1, "c", "k", "3"), tx(2, "y"))
	told(t, "<a><b><c/></b><d><e><f/></e></d></a>", el(0, "a"), el(1, "b"), el(2, "c"), el(1, "d"), el(2, "e"), el(3, "f"))
}

// P4.1: ends that close nothing, or another element.
func TestClose(t *testing.T) {
	refused(t,
		amiss{"</a>", 0, api.ErrParseClose}, amiss{"<a/></a>", 4, api.ErrParseClose}, amiss{"<a></a></a>", 7, api.ErrParseClose},
		amiss{"<a></b>", 3, api.ErrParseClose}, amiss{"<a></A>", 3, api.ErrParseClose}, amiss{"<a></aa>", 3, api.ErrParseClose}, amiss{"<ab></a>", 4, api.ErrParseClose}, amiss{"<\u00e9></e>", 4, api.ErrParseClose},
		amiss{"<a><b></a></b>", 6, api.ErrParseClose}, amiss{"<a><b></a>", 6, api.ErrParseClose}, amiss{"<a><b/></b></a>", 7, api.ErrParseClose}, amiss{"<a>x</x></a>", 4, api.ErrParseClose}, amiss{"<a><b></b></b></a>", 10, api.ErrParseClose},
		amiss{"<a><b><c></c></b><d></b></d></a>", 20, api.ErrParseClose},
	)
}

// P4.1: what stands behind the root, or is no element ahead of it.
func TestRoot(t *testing.T) {
	refused(t,
		amiss{"", 0, api.ErrParseRoot}, amiss{"x", 0, api.ErrParseRoot}, amiss{" ", 0, api.ErrParseRoot}, amiss{" <a/>", 0, api.ErrParseRoot}, amiss{"\n<a></a>", 0, api.ErrParseRoot}, amiss{"x</a>", 0, api.ErrParseRoot},
		amiss{"<a/>x", 4, api.ErrParseRoot}, amiss{"<a/> ", 4, api.ErrParseRoot}, amiss{"<a></a>\n", 7, api.ErrParseRoot}, amiss{"<a>x</a>y", 8, api.ErrParseRoot},
		amiss{"<a/><b/>", 4, api.ErrParseRoot}, amiss{"<a/><a/>", 4, api.ErrParseRoot}, amiss{"<a></a><a></a>", 7, api.ErrParseRoot}, amiss{"<a/><b>", 4, api.ErrParseRoot}, amiss{"<a/>x<b/>", 4, api.ErrParseRoot}, amiss{"<a><b/></a>x", 11, api.ErrParseRoot},
	)
}

// P4.1: what is open at the end.
func TestOpen(t *testing.T) {
	for _, s := range []string{"<a>", "<a>x", "<a>x&amp;", "<a><b/>", "<a><b></b>", "<a><b>", "<a><a></a>", `<a k="1">`, "<a>\u20ac"} {
		refused(t, amiss{s, len(s), api.ErrParseClose})
	}
}

// P4.1: what lexis and escape tell, wherever it stands in a document.
func TestLexis(t *testing.T) {
	for _, r := range []amiss{
		{"<", 1, api.ErrLexName}, {"</", 2, api.ErrLexName}, {"<1/>", 1, api.ErrLexName}, {"</a b>", 4, api.ErrLexForm}, {"<b", 2, api.ErrLexForm}, {"<b c=1>", 5, api.ErrLexForm},
		{`<b c="1" c="2">`, 9, api.ErrLexTwice}, {"x&", 1, api.ErrEscapeForm}, {">", 0, api.ErrEscapeForm}, {"x\r", 1, api.ErrEscapeChar}, {"&#0;", 0, api.ErrEscapeChar}, {"\x80", 0, api.ErrEscapeChar}, {`<b c="\n&"/>`, 8, api.ErrEscapeForm}, {"<b c=\"\n\"/>", 6, api.ErrEscapeChar},
		{strings.Repeat("x", api.MaxText+1), 0, api.ErrLexLong}, {`<b c="` + strings.Repeat("x", api.MaxText+1) + `"/>`, 5, api.ErrLexLong}, {"<b" + manyAttrs(api.MaxAttrs) + ` z=""/>`, 3 + len(manyAttrs(api.MaxAttrs)), api.ErrLexMany},
	} {
		// Behind the root, and ahead of it, parse would refuse a text or an element, had lexis told a token.
		for _, ahead := range []string{"", "<r>", "<r><q></q>", "<r/>", "<r><q>"} {
			refused(t, amiss{ahead + r.s, len(ahead) + r.at, r.e})
		}
	}
}

func manyAttrs(many int) string {
	s := ""
	for i := range many {
		s += " n" + strconv.Itoa(10+i) + `="` + strconv.Itoa(i) + `"`
	}
	return s
}

// P4.1: of several things amiss the first one is told, lexis' or parse's.
func TestFirst(t *testing.T) {
	refused(t,
		amiss{"<a></b>&", 3, api.ErrParseClose}, amiss{"<a></b><", 3, api.ErrParseClose}, amiss{"<a/>x<", 4, api.ErrParseRoot}, amiss{"<a/><b/>&", 4, api.ErrParseRoot}, amiss{"x<", 0, api.ErrParseRoot}, amiss{"</a><", 0, api.ErrParseClose},
		amiss{"<a>&</b>", 3, api.ErrEscapeForm}, amiss{"<a><</b>x", 4, api.ErrLexName}, amiss{"<a></b", 6, api.ErrLexForm}, amiss{"</a", 3, api.ErrLexForm}, amiss{"<a/>x&", 5, api.ErrEscapeForm}, amiss{"<a/><b c=1/>", 9, api.ErrLexForm}, amiss{"x&", 1, api.ErrEscapeForm},
		amiss{"<a></b>x", 3, api.ErrParseClose}, amiss{"<a></a>x</b>", 7, api.ErrParseRoot}, amiss{"<a/></a>x", 4, api.ErrParseClose}, amiss{"<a/>x</a>", 4, api.ErrParseRoot}, amiss{"x</a>", 0, api.ErrParseRoot},
		amiss{"<a></a><b>", 7, api.ErrParseRoot}, amiss{"<a><b></c>", 6, api.ErrParseClose},
	)
}

// P4.1: Levels up to MaxDepth - 1, and one more.
func TestDeep(t *testing.T) {
	deepest := api.MaxDepth - 1
	open, close := strings.Repeat("<d>", deepest), strings.Repeat("</d>", deepest)
	told(t, open+"<e/>"+close, joined(chain(deepest), el(deepest, "e"))...)
	told(t, open+"<e></e>"+close, joined(chain(deepest), el(deepest, "e"))...)
	told(t, open+"x"+close, joined(chain(deepest), tx(deepest, "x"))...)
	told(t, open+"<e/>x<f></f>"+close, joined(chain(deepest), el(deepest, "e"), tx(deepest, "x"), el(deepest, "f"))...)
	at := len(open + "<d>")
	for _, more := range []string{"<e/>", "<e></e>", "x", "<e>", "x</d>", `<e k="1"/>`, "<e/></b>&"} {
		refused(t, amiss{open + "<d>" + more, at, api.ErrParseDeep}, amiss{open + "<d>" + more + "</d>" + close, at, api.ErrParseDeep})
		refused(t, amiss{open + "<d></d><d>" + more, at + len("</d><d>"), api.ErrParseDeep})
	}
	refused(t, amiss{open + "<d></e>", at, api.ErrParseClose}, amiss{open + "<d>&", at, api.ErrEscapeForm}, amiss{open + "<d><1/>", at + 1, api.ErrLexName})
	refused(t, amiss{strings.Repeat("<d>", 5000), at, api.ErrParseDeep})
}

// P4.1: MaxNodes items, and one more.
func TestMany(t *testing.T) {
	most := api.MaxNodes - 1
	for piece, items := range map[string][]api.Item{
		"<b/>": row(el(1, "b")), "<b></b>": row(el(1, "b")), "x<b/><c/>": row(tx(1, "x"), el(1, "b"), el(1, "c")), "<b>x</b><c/>": row(el(1, "b"), tx(2, "x"), el(1, "c")),
	} {
		s, want := "<a>", row(el(0, "a"))
		for range most / len(items) {
			s, want = s+piece, append(want, items...)
		}
		told(t, s+"</a>", want...)
	}
	s := "<a>" + strings.Repeat("<b/>", most)
	for _, more := range []string{"<b/>", "<b>", "x", "x</a>", "<b></b></a>", "x</b>&", "<b/></b>"} {
		refused(t, amiss{s + more, len(s), api.ErrParseMany})
	}
	refused(t,
		amiss{s, len(s), api.ErrParseClose}, amiss{s + "</b>", len(s), api.ErrParseClose}, amiss{s + "&", len(s), api.ErrEscapeForm}, amiss{s + "</a>x", len(s) + 4, api.ErrParseRoot}, amiss{s + "</a><b/>", len(s) + 4, api.ErrParseRoot},
	)
	deep := strings.Repeat("<d>", api.MaxDepth)
	s = "<a>" + strings.Repeat("<b/>", api.MaxNodes-api.MaxDepth) + deep[3:]
	refused(t, amiss{s + "x", len(s), api.ErrParseDeep}, amiss{s + "<e/>", len(s), api.ErrParseDeep}, amiss{s + "</d>x", len(s) + 4, api.ErrParseMany})
}

// P4.1, P4.2: MaxAttrs attributes, a text and a Value of MaxText bytes; one more of each is lexis' in TestLexis.
func TestMost(t *testing.T) {
	l, at, e := parse.Parse("<a><b" + manyAttrs(api.MaxAttrs) + "/></a>")
	if e != api.OK || at != 0 || len(l) != 2 || len(l[1].Attrs) != api.MaxAttrs || l[1].Attrs[19] != (api.Attr{Name: "n29", Value: "19"}) {
		t.Errorf("P4.1: MaxAttrs attributes: %s, %d at %d", brief(l), e, at)
	}
	follows(t, l)
	for _, s := range []string{strings.Repeat("x", api.MaxText), strings.Repeat("\u20ac", api.MaxText/3)} {
		told(t, "<a>"+s+"</a>", el(0, "a"), tx(1, s))
		told(t, `<a b="`+s+`"/>`, el(0, "a", "b", s))
	}
	told(t, "<a>"+strings.Repeat("&lt;", api.MaxText)+"</a>", el(0, "a"), tx(1, strings.Repeat("<", api.MaxText)))
}

// P4.2: what Check has nothing against, though Parse would never tell some of it.
func TestCheckOK(t *testing.T) {
	for _, l := range [][]api.Item{
		row(el(0, "a")), row(el(0, "a"), el(1, "b"), el(2, "c"), el(1, "d")), row(el(0, "a"), tx(1, "x"), el(1, "b"), tx(2, "y")),
		row(el(0, "a"), tx(1, ""), tx(1, "x"), tx(1, "y")), row(el(0, "a"), tx(1, "\r\t\n<&>\"'")), row(el(0, "a", "b", "\r\t\n<&>\"'", "c", "")),
		row(el(0, "a"), el(1, "b"), el(2, "c"), tx(3, "x"), tx(1, "y")), row(el(0, "a"), el(1, "b"), el(2, "c"), tx(3, "x"), tx(2, "y")),
		row(api.Item{Kind: api.Element, Name: "a", Attrs: []api.Attr{}}, api.Item{Level: 1, Kind: api.Text, Attrs: []api.Attr{}}),
		row(el(0, "a", "B", "", "a", "", "a-", "", "a1", "", "aa", "", "b", "", "\u00e9", "", "\u4e00", "")),
		row(el(0, strings.Repeat("n", api.MaxName), strings.Repeat("n", api.MaxName), "")),
	} {
		checked(t, l, 0, api.OK)
		follows(t, l)
	}
}

// P4.2: items where none may stand.
func TestCheckPlace(t *testing.T) {
	checked(t, nil, 0, api.ErrParseRoot)
	checked(t, row(), 0, api.ErrParseRoot)
	for _, first := range row(tx(0, "x"), tx(0, ""), tx(1, "x"), el(1, "a"), el(-1, "a"), el(math.MaxInt, "a"), el(math.MinInt, "a"), el(api.MaxDepth, "a"), api.Item{}, api.Item{Name: "a"}, api.Item{Kind: 3, Name: "a"}, api.Item{Kind: -1}) {
		checked(t, row(first), 0, api.ErrTreePlace)
		checked(t, row(first, el(1, "b"), tx(2, "x")), 0, api.ErrTreePlace)
	}
	for _, level := range []int{0, -1, math.MinInt, 2, 3, api.MaxDepth, api.MaxDepth + 1, math.MaxInt} {
		checked(t, row(el(0, "a"), el(level, "b")), 1, api.ErrTreePlace)
		checked(t, row(el(0, "a"), tx(level, "x")), 1, api.ErrTreePlace)
		checked(t, row(el(0, "a"), tx(1, "x"), tx(level, "x")), 2, api.ErrTreePlace)
		checked(t, row(el(0, "a"), tx(1, "x"), el(level, "b")), 2, api.ErrTreePlace)
		checked(t, row(el(0, "a"), tx(1, ""), el(level, "b")), 2, api.ErrTreePlace)
	}
	checked(t, row(el(0, "a"), el(1, "b"), tx(2, "x"), el(3, "c")), 3, api.ErrTreePlace)
	checked(t, row(el(0, "a"), el(1, "b"), tx(2, "x"), el(4, "c")), 3, api.ErrTreePlace)
	checked(t, row(el(0, "a"), el(1, "b"), tx(2, "x"), el(1, "c"), el(3, "d")), 4, api.ErrTreePlace)
	checked(t, row(el(0, "a"), el(1, "b"), el(0, "c")), 2, api.ErrTreePlace)
}

// P4.2: Levels up to MaxDepth - 1, and one more; MaxNodes items, and one more.
func TestCheckLimits(t *testing.T) {
	deep := chain(api.MaxDepth)
	checked(t, deep, 0, api.OK)
	checked(t, joined(deep[:39], tx(39, "x")), 0, api.OK)
	checked(t, joined(deep, el(api.MaxDepth, "e")), api.MaxDepth, api.ErrParseDeep)
	checked(t, joined(deep, tx(api.MaxDepth, "x")), api.MaxDepth, api.ErrParseDeep)
	checked(t, joined(deep, el(39, "e"), el(40, "f")), api.MaxDepth+1, api.ErrParseDeep)
	checked(t, joined(deep, el(api.MaxDepth+1, "e")), api.MaxDepth, api.ErrTreePlace)
	checked(t, joined(deep[:39], tx(39, "x"), tx(40, "x")), api.MaxDepth, api.ErrTreePlace)

	many := row(el(0, "a"))
	for len(many) < api.MaxNodes {
		many = append(many, tx(1, "x"))
	}
	checked(t, many, 0, api.OK)
	for _, more := range row(el(1, "b"), tx(1, "x"), tx(1, ""), api.Item{Level: 1}, tx(1, "\x80"), el(1, "1")) {
		checked(t, joined(many, more), api.MaxNodes, api.ErrParseMany)
		checked(t, joined(many, more, el(0, "b")), api.MaxNodes, api.ErrParseMany)
	}
	checked(t, joined(many, tx(0, "x")), api.MaxNodes, api.ErrTreePlace)
	checked(t, joined(many, tx(2, "x")), api.MaxNodes, api.ErrTreePlace)
	checked(t, joined(many[:api.MaxNodes-1], tx(2, "x"), tx(1, "x")), api.MaxNodes-1, api.ErrTreePlace)
	both := joined(many[:api.MaxNodes-39], chain(api.MaxDepth)[1:]...)
	checked(t, both, 0, api.OK)
	checked(t, joined(both, tx(api.MaxDepth, "x")), api.MaxNodes, api.ErrParseDeep)
	checked(t, joined(both, tx(api.MaxDepth-1, "x")), api.MaxNodes, api.ErrParseMany)
}

// refusedItem asks for what is amiss with an item at Level 1, be it the second one or a later one, and however much is amiss behind it.
func refusedItem(t *testing.T, item api.Item, e api.Errno) {
	t.Helper()
	item.Level = 1
	checked(t, row(el(0, "a"), item), 1, e)
	checked(t, row(el(0, "a"), el(1, "b"), tx(2, "x"), item), 3, e)
	checked(t, row(el(0, "a"), item, el(0, "b")), 1, e)
	checked(t, row(el(0, "a"), item, api.Item{Level: 1}), 1, e)
	if item.Kind == api.Element {
		item.Level = 0
		checked(t, row(item), 0, e)
		checked(t, row(item, tx(0, "x")), 0, e)
	}
}

// P4.2: kinds that are none, and what an item of a kind may not have.
func TestCheckKind(t *testing.T) {
	for _, kind := range []int{0, 3, 4, -1, math.MaxInt, math.MinInt} {
		refusedItem(t, api.Item{Kind: kind}, api.ErrTreeKind)
		refusedItem(t, api.Item{Kind: kind, Name: "b"}, api.ErrTreeKind)
		refusedItem(t, api.Item{Kind: kind, Name: "1", Attrs: attrs("b", "\x80")}, api.ErrTreeKind)
		refusedItem(t, api.Item{Kind: kind, Text: "\x80"}, api.ErrTreeKind)
	}
	for _, s := range []string{"x", " ", "\x80", strings.Repeat("x", api.MaxText+1)} {
		for _, name := range []string{"b", "", "1"} {
			refusedItem(t, api.Item{Kind: api.Element, Name: name, Text: s}, api.ErrTreeKind)
			refusedItem(t, api.Item{Kind: api.Element, Name: name, Text: s, Attrs: attrs("1", "\x80")}, api.ErrTreeKind)
		}
		refusedItem(t, api.Item{Kind: api.Text, Text: s, Name: "b"}, api.ErrTreeKind)
		refusedItem(t, api.Item{Kind: api.Text, Text: s, Attrs: attrs("b", "")}, api.ErrTreeKind)
		refusedItem(t, api.Item{Kind: api.Text, Text: s, Attrs: attrs("1", "\x80")}, api.ErrTreeKind)
	}
	refusedItem(t, api.Item{Kind: api.Text, Name: "1"}, api.ErrTreeKind)
	refusedItem(t, api.Item{Kind: api.Text, Attrs: attrs("", "")}, api.ErrTreeKind)
	refusedItem(t, api.Item{Kind: api.Text, Name: "b", Attrs: attrs("b", "")}, api.ErrTreeKind)
}

// rising tells so many attributes.
func rising(many int) []api.Attr {
	var l []api.Attr
	for i := range many {
		l = append(l, api.Attr{Name: "n" + strconv.Itoa(100+i)})
	}
	return l
}

// P4.2: names that are none, attributes that do not rise, and too many.
func TestCheckName(t *testing.T) {
	for _, name := range []string{"", "1", "-a", "a b", "a:b", "\x80", "a\xc3", "\u00d7", strings.Repeat("n", api.MaxName+1)} {
		refusedItem(t, el(1, name), api.ErrTreeName)
		refusedItem(t, el(1, name, "b", "\x80"), api.ErrTreeName)
		refusedItem(t, el(1, "b", name, ""), api.ErrTreeName)
		refusedItem(t, el(1, "b", "A", "\x80", name, ""), api.ErrTreeName)
		refusedItem(t, el(1, "b", name, "", "zz", ""), api.ErrTreeName)
		refusedItem(t, api.Item{Kind: api.Element, Name: name, Attrs: rising(21)}, api.ErrTreeName)
		refusedItem(t, api.Item{Kind: api.Element, Name: "b", Attrs: append(rising(21), api.Attr{Name: name})}, api.ErrTreeName)
	}
	refusedItem(t, el(1, "b", "c", "", "c", ""), api.ErrTreeName)
	refusedItem(t, el(1, "b", "c", "1", "c", "2"), api.ErrTreeName)
	refusedItem(t, el(1, "b", "d", "", "c", ""), api.ErrTreeName)
	refusedItem(t, el(1, "b", "a", "", "B", ""), api.ErrTreeName)
	refusedItem(t, el(1, "b", "aa", "", "a", ""), api.ErrTreeName)
	refusedItem(t, el(1, "b", "c", "", "e", "", "d", ""), api.ErrTreeName)
	refusedItem(t, el(1, "b", "c", "", "e", "", "c", ""), api.ErrTreeName)
	refusedItem(t, el(1, "b", "d", "\x80", "c", strings.Repeat("x", api.MaxText+1)), api.ErrTreeName)
	refusedItem(t, api.Item{Kind: api.Element, Name: "b", Attrs: append(rising(20), api.Attr{Name: "n100"})}, api.ErrTreeName)

	checked(t, row(api.Item{Kind: api.Element, Name: "b", Attrs: rising(api.MaxAttrs)}), 0, api.OK)
	refusedItem(t, api.Item{Kind: api.Element, Name: "b", Attrs: rising(api.MaxAttrs + 1)}, api.ErrTreeLong)
	refusedItem(t, api.Item{Kind: api.Element, Name: "b", Attrs: rising(500)}, api.ErrTreeLong)
	refusedItem(t, api.Item{Kind: api.Element, Name: "b", Attrs: append(attrs("a", "\x80"), rising(api.MaxAttrs)...)}, api.ErrTreeLong)
}

// P4.2: Texts and Values that are not made of characters, or too long.
func TestCheckText(t *testing.T) {
	long, longer := strings.Repeat("x", api.MaxText), strings.Repeat("x", api.MaxText+1)
	for _, s := range []string{long, strings.Repeat("\u20ac", api.MaxText/3), strings.Repeat("&", api.MaxText)} {
		checked(t, row(el(0, "a"), tx(1, s), el(1, "b", "c", s, "d", s)), 0, api.OK)
		refusedItem(t, tx(1, s+"y"), api.ErrTreeLong)
		refusedItem(t, el(1, "b", "c", s+"y"), api.ErrTreeLong)
		refusedItem(t, el(1, "b", "c", s, "d", s+"y"), api.ErrTreeLong)
	}
	for _, s := range []string{"\x00", "x\x80", "\xc0\x80", "\ufffe", "x\v", "\xed\xa0\x80", "\xe2\x82", longer + "\x80", "\x80" + longer} {
		refusedItem(t, tx(1, s), api.ErrTreeChar)
		refusedItem(t, el(1, "b", "c", s), api.ErrTreeChar)
		refusedItem(t, el(1, "b", "c", "", "d", s), api.ErrTreeChar)
		refusedItem(t, el(1, "b", "c", s, "d", longer), api.ErrTreeChar)
		refusedItem(t, el(1, "b", "c", longer, "d", s), api.ErrTreeLong)
		refusedItem(t, el(1, "b", "c", long, "d", s, "e", longer), api.ErrTreeChar)
	}
}

// rule is what Check asks of an item, with what it tells.
type rule struct {
	e     api.Errno
	amiss func(l []api.Item, k int) bool
}

// rules say P4.2 anew, in the chapter's order.
func rules() []rule {
	element := func(i api.Item) bool { return i.Kind == 1 }
	return []rule{
		{api.ErrTreePlace, func(l []api.Item, k int) bool { return k == 0 && !(element(l[0]) && l[0].Level == 0) }},
		{api.ErrTreePlace, func(l []api.Item, k int) bool {
			return k > 0 && (l[k].Level < 1 || l[k].Level-l[k-1].Level > 1 || l[k].Level-l[k-1].Level == 1 && l[k-1].Kind == 2)
		}},
		{api.ErrParseDeep, func(l []api.Item, k int) bool { return l[k].Level >= 40 }},
		{api.ErrParseMany, func(l []api.Item, k int) bool { return k == 1000 }},
		{api.ErrTreeKind, func(l []api.Item, k int) bool {
			return l[k].Kind != 1 && l[k].Kind != 2 || element(l[k]) && l[k].Text != "" || !element(l[k]) && (l[k].Name != "" || len(l[k].Attrs) != 0)
		}},
		{api.ErrTreeName, func(l []api.Item, k int) bool {
			names := []string{}
			for _, a := range l[k].Attrs {
				names = append(names, a.Name)
			}
			some := slices.ContainsFunc(names, func(n string) bool { return !glyph.Name(n) })
			return element(l[k]) && (!glyph.Name(l[k].Name) || some || !slices.IsSorted(names) || len(slices.Compact(names)) < len(l[k].Attrs))
		}},
		{api.ErrTreeLong, func(l []api.Item, k int) bool { return len(l[k].Attrs) > 20 }},
	}
}

// check says P4.2 anew.
func check(l []api.Item) (int, api.Errno) {
	if len(l) == 0 {
		return 0, api.ErrParseRoot
	}
	for k, i := range l {
		for _, r := range rules() {
			if r.amiss(l, k) {
				return k, r.e
			}
		}
		texts := []string{i.Text}
		for _, a := range i.Attrs {
			texts = append(texts, a.Value)
		}
		for _, s := range texts {
			switch {
			case glyph.Count(s) == -1:
				return k, api.ErrTreeChar
			case len(s) > 1500:
				return k, api.ErrTreeLong
			}
		}
	}
	return 0, api.OK
}

// rows calls f with every row of up to most of the given items.
func rows(l, items []api.Item, most int, f func(l []api.Item)) {
	f(l)
	if most == 0 {
		return
	}
	for _, i := range items {
		rows(append(l[:len(l):len(l)], i), items, most-1, f)
	}
}

// P4.2, P4.4: every short row.
func TestCheckRows(t *testing.T) {
	longer := strings.Repeat("x", api.MaxText+1)
	var items []api.Item
	for level := -1; level <= 3; level++ {
		for _, i := range row(el(0, "a"), tx(0, "x"), tx(0, ""), tx(0, "\x80"), tx(0, longer), api.Item{}, el(0, "1"), el(0, "b", "c", "\x80", "d", longer), el(0, "b", "d", "", "c", "")) {
			i.Level = level
			items = append(items, i)
		}
	}
	hold := func(l []api.Item) {
		k, e := check(l)
		checked(t, l, k, e)
		if e == api.OK {
			follows(t, l)
		}
	}
	rows(nil, items, 3, hold)
	rows(row(el(0, "a"), el(1, "b")), items, 2, hold)
	rows(row(el(0, "a"), el(1, "b"), el(2, "c")), items, 2, hold)
	rows(nil, row(el(0, "a"), el(1, "b"), el(2, "c"), el(3, "d"), tx(1, "x"), tx(2, "y"), tx(3, "")), 5, hold)
}

// P4.3: every short row, be it a document or not, and numbers at which there is no item.
func TestEndParent(t *testing.T) {
	var items []api.Item
	for _, level := range []int{math.MinInt, -1, 0, 1, 2, math.MaxInt} {
		items = append(items, api.Item{Level: level, Kind: level & 3})
	}
	rows(nil, items, 5, func(l []api.Item) {
		for _, k := range []int{-1, -2, math.MinInt, len(l), len(l) + 1, math.MaxInt} {
			if end, parent := parse.End(l, k), parse.Parent(l, k); end != 0 || parent != -1 {
				t.Fatalf("P4.3: of %v at %d: %d, %d", l, k, end, parent)
			}
		}
		for k, i := range l {
			end := len(l)
			for n := len(l) - 1; n > k; n-- {
				if l[n].Level <= i.Level {
					end = n
				}
			}
			parent := -1
			for n := range k {
				if l[n].Level < i.Level {
					parent = n
				}
			}
			if gotEnd, gotParent := parse.End(l, k), parse.Parent(l, k); gotEnd != end || gotParent != parent {
				t.Fatalf("P4.3: of %v at %d: %d, %d, not %d, %d", l, k, gotEnd, gotParent, end, parent)
			}
		}
	})
}

// P4.3: the chapter's words on a document's items.
func TestEndParentOfDocument(t *testing.T) {
	l, _, _ := parse.Parse("<a>x<b><c/>y</b><d/></a>")
	for k, want := range [][2]int{{6, -1}, {2, 0}, {5, 0}, {4, 2}, {5, 2}, {6, 0}} {
		if end, parent := parse.End(l, k), parse.Parent(l, k); end != want[0] || parent != want[1] {
			t.Errorf("P4.3: at %d: %d, %d, not %v", k, end, parent, want)
		}
	}
}

// read says P4.1 anew: a token's Level is how many beginnings are ahead of it less how many ends; an end's beginning is the last one of the same Level.
func read(s string) ([]api.Item, int, api.Errno) {
	var tokens []lexis.Token
	var items []api.Item
	level := 0
	for at := 0; at < len(s); {
		k, behind, bad, e := lexis.One(s, at)
		if e != api.OK {
			return nil, bad, e
		}
		switch {
		case k.Kind == 2 && level == 0:
			return nil, at, api.ErrParseClose
		case k.Kind == 2:
			level--
			last := len(items) - 1
			for items[last].Kind == 2 || items[last].Level != level {
				last--
			}
			if items[last].Name != k.Name {
				return nil, at, api.ErrParseClose
			}
		case level == 0 && (len(tokens) > 0 || k.Kind == 4):
			return nil, at, api.ErrParseRoot
		case level == 40:
			return nil, at, api.ErrParseDeep
		case len(items) == 1000:
			return nil, at, api.ErrParseMany
		case k.Kind == 4:
			items = append(items, tx(level, k.Text))
		default:
			items = append(items, api.Item{Level: level, Kind: 1, Name: k.Name, Attrs: k.Attrs})
			if k.Kind == 1 {
				level++
			}
		}
		tokens, at = append(tokens, k), behind
	}
	switch {
	case len(tokens) == 0:
		return nil, 0, api.ErrParseRoot
	case level > 0:
		return nil, len(s), api.ErrParseClose
	}
	return items, 0, api.OK
}

// spelt calls f with every text of up to most of the given parts.
func spelt(s string, parts []string, most int, f func(s string)) {
	f(s)
	if most == 0 {
		return
	}
	for _, p := range parts {
		spelt(s+p, parts, most-1, f)
	}
}

// P4.1, P4.4: every short text of tags and texts.
func TestSpelt(t *testing.T) {
	hold := func(s string) {
		want, wantAt, wantE := read(s)
		l, at, e := parse.Parse(s)
		if at != wantAt || e != wantE || !slices.EqualFunc(l, want, same) {
			t.Fatalf("P4.1: Parse(%.80q) is %s, %d at %d, not %s, %d at %d", s, brief(l), e, at, brief(want), wantE, wantAt)
		}
		if e == api.OK {
			follows(t, l)
		}
	}
	spelt("", []string{"<a>", "</a>", "<b>", "</b>", "<a/>", "x"}, 7, hold)
	spelt("", []string{"<a>", "</a>", "<", "&lt;", `<b c="1">`, "</b>", "&", "\x80", `<b c="1" b=""/>`}, 5, hold)
	spelt("<a>", []string{"<a>", "</a>", "<b>", "</b>", "x"}, 7, hold)
	spelt(strings.Repeat("<d>", 39), []string{"<e>", "</e>", "</d>", "<f/>", "x", "&"}, 5, hold)
	spelt("<a>"+strings.Repeat("<b/>", 997), []string{"<e>", "</e>", "</a>", "x", "&"}, 4, hold)
}

// R5, R6: what a call was given stays as it was; what it told is the caller's own.
func TestOwn(t *testing.T) {
	s := `<a c="3" b="2"><a c="3" b="2"/></a>`
	want := row(el(0, "a", "b", "2", "c", "3"), el(1, "a", "b", "2", "c", "3"))
	l, _, _ := parse.Parse(s)
	if !slices.EqualFunc(l, want, same) {
		t.Fatal("P4.1:", l)
	}
	parse.Check(l)
	parse.End(l, 0)
	parse.Parent(l, 1)
	if !slices.EqualFunc(l, want, same) {
		t.Error("R5:", l)
	}
	l[0].Attrs[0] = api.Attr{Name: "x"}
	l[0].Attrs = append(l[0].Attrs, api.Attr{Name: "y"})
	if !same(l[1], want[1]) {
		t.Error("R6:", l)
	}
	if again, _, _ := parse.Parse(s); !slices.EqualFunc(again, want, same) {
		t.Error("R6:", again)
	}
}

func FuzzParse(f *testing.F) {
	for _, s := range []string{"", "<a/>", `<a k="1">x<b/><c>y</c></a>`, "<a></b>", "<a/>x", "<a>&", "<a><b></a>"} {
		f.Add(s)
	}
	f.Fuzz(func(t *testing.T, s string) {
		want, wantAt, wantE := read(s)
		l, at, e := parse.Parse(s)
		if at != wantAt || e != wantE || !slices.EqualFunc(l, want, same) {
			t.Fatalf("P4.1: Parse(%.80q) is %s, %d at %d, not %s, %d at %d", s, brief(l), e, at, brief(want), wantE, wantAt)
		}
	})
}
