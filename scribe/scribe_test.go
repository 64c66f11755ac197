package scribe_test

import (
	"fmt"
	"math"
	"slices"
	"strconv"
	"strings"
	"testing"

	"incunable/api"
	"incunable/escape"
	"incunable/parse"
	"incunable/scribe"
)

func attrs(l ...string) []api.Attr {
	var all []api.Attr
	for i := 0; i < len(l); i += 2 {
		all = append(all, api.Attr{Name: l[i], Value: l[i+1]})
	}
	return all
}

func el(level int, name string, l ...string) api.Item {
	return api.Item{Level: level, Kind: api.Element, Name: name, Attrs: attrs(l...)}
}

func tx(level int, s string) api.Item { return api.Item{Level: level, Kind: api.Text, Text: s} }

func row(l ...api.Item) []api.Item { return l }

// with tells l and more in memory of its own, as rows of the tests are built on each other.
func with(l []api.Item, more ...api.Item) []api.Item { return append(slices.Clone(l), more...) }

// chain tells elements, one in the other, at Levels 0 to many - 1.
func chain(many int) []api.Item {
	var l []api.Item
	for level := range many {
		l = append(l, el(level, "d"))
	}
	return l
}

// brief tells the beginning of what may be long.
func brief(l []api.Item) string { return fmt.Sprintf("%.200q", fmt.Sprint(l)) }

// exact tells whether two items are alike; it says Same anew for one item each.
func exact(a, b api.Item) bool {
	if len(a.Attrs) != len(b.Attrs) {
		return false
	}
	for i := range a.Attrs {
		if a.Attrs[i] != b.Attrs[i] {
			return false
		}
	}
	return a.Level == b.Level && a.Kind == b.Kind && a.Name == b.Name && a.Text == b.Text
}

func equal(a, b []api.Item) bool { return slices.EqualFunc(a, b, exact) }

// deep tells a copy of a row that shares nothing with it.
func deep(l []api.Item) []api.Item {
	l = slices.Clone(l)
	for k := range l {
		l[k].Attrs = slices.Clone(l[k].Attrs)
	}
	return l
}

// printed asks for P5.1 of a document, and for what follows.
func printed(t *testing.T, want string, l ...api.Item) {
	t.Helper()
	if s, e := scribe.Print(l); e != api.OK || s != want {
		t.Errorf("P5.1: Print(%s) is %.200q, %d, not %.200q", brief(l), s, e, want)
	}
	follows(t, l)
}

func normal(t *testing.T, l []api.Item, want ...api.Item) {
	t.Helper()
	if n := scribe.Normal(l); !equal(n, want) {
		t.Errorf("P5.2: Normal(%s) is %s, not %s", brief(l), brief(n), brief(want))
	}
}

func same(t *testing.T, a, b []api.Item, want bool) {
	t.Helper()
	if scribe.Same(a, b) != want || scribe.Same(b, a) != want {
		t.Errorf("P5.2: Same(%s, %s) is not %v", brief(a), brief(b), want)
	}
}

// follows asks for P5.3 of a document, and for R5.
func follows(t *testing.T, l []api.Item) {
	t.Helper()
	was := deep(l)
	s, e := scribe.Print(l)
	n := scribe.Normal(l)
	if e != api.OK || !equal(l, was) {
		t.Fatalf("R5, P5.1: Print(%s): %d", brief(l), e)
	}
	told, at, e := parse.Parse(s)
	if slices.ContainsFunc(n, func(i api.Item) bool { return len(i.Text) > api.MaxText }) {
		if e != api.ErrLexLong || len(told) != 0 {
			t.Errorf("P5.3: Parse(%.80q) is %s, %d at %d", s, brief(told), e, at)
		}
		return
	}
	if e != api.OK || at != 0 || !equal(told, n) {
		t.Errorf("P5.3: Parse(%.80q) is %s, %d at %d, not %s", s, brief(told), e, at, brief(n))
	}
	if again, e := scribe.Print(n); e != api.OK || again != s {
		t.Errorf("P5.3: Print(%s) is %.80q, %d, not %.80q", brief(n), again, e, s)
	}
}

// P5.1: ordinary documents.
func TestPrint(t *testing.T) {
	printed(t, "<a/>", el(0, "a"))
	printed(t, "<a>&lt;<b/></a>", el(0, "a"), tx(1, "<"), el(1, "b"))
	printed(t, "<a>x</a>", el(0, "a"), tx(1, "x"))
	printed(t, "<a> </a>", el(0, "a"), tx(1, " "))
	printed(t, "<a>\n\t</a>", el(0, "a"), tx(1, "\n\t"))
	printed(t, "<a><b/></a>", el(0, "a"), el(1, "b"))
	printed(t, "<a><a><a/></a><a/></a>", el(0, "a"), el(1, "a"), el(2, "a"), el(1, "a"))
	printed(t, "<a>x<b>y</b>z</a>", el(0, "a"), tx(1, "x"), el(1, "b"), tx(2, "y"), tx(1, "z"))
	printed(t, "<a><b><c/></b><d>x<e/></d></a>", el(0, "a"), el(1, "b"), el(2, "c"), el(1, "d"), tx(2, "x"), el(2, "e"))
	printed(t, "<a><b><c><d/></c></b>x</a>", el(0, "a"), el(1, "b"), el(2, "c"), el(3, "d"), tx(1, "x"))
	printed(t, "<\u00e9>\u20ac\U0001f600</\u00e9>", el(0, "\u00e9"), tx(1, "\u20ac\U0001f600"))
}

// P5.1: attributes.
func TestPrintAttrs(t *testing.T) {
	printed(t, `<a b="1"/>`, el(0, "a", "b", "1"))
	printed(t, `<a b=""/>`, el(0, "a", "b", ""))
	printed(t, `<a B="1" b="2" c=" x "/>`, el(0, "a", "B", "1", "b", "2", "c", " x "))
	printed(t, `<a b="1">x</a>`, el(0, "a", "b", "1"), tx(1, "x"))
	printed(t, `<a b="1"><a b="1" c="2"><c/></a></a>`, el(0, "a", "b", "1"), el(1, "a", "b", "1", "c", "2"), el(2, "c"))

	most, s := row(el(0, "a")), "<a"
	for i := range api.MaxAttrs {
		name := "n" + strconv.Itoa(100+i)
		most[0].Attrs = append(most[0].Attrs, api.Attr{Name: name, Value: "&"})
		s += " " + name + `="&amp;"`
	}
	printed(t, s+"/>", most...)
}

// P5.1: what escape writes as references.
func TestPrintReferences(t *testing.T) {
	all := "&<>\"'\r\t\n \u00e9&lt;"
	printed(t, "<a>&amp;&lt;&gt;\"'&#13;\t\n \u00e9&amp;lt;</a>", el(0, "a"), tx(1, all))
	printed(t, "<a k=\"&amp;&lt;&gt;&quot;'&#13;&#9;&#10; \u00e9&amp;lt;\"/>", el(0, "a", "k", all))
	printed(t, "<a>&amp;lt;</a>", el(0, "a"), tx(1, "&"), tx(1, "lt;"))
	printed(t, "<a>&lt;b/&gt;</a>", el(0, "a"), tx(1, "<b/>"))
	for c := rune(0); c < 0x10000; c++ {
		s := string(c)
		text, is := escape.Text(s)
		if !is || c > 0x400 && c%251 != 0 {
			continue
		}
		value, _ := escape.Value(s)
		printed(t, `<a k="`+value+`">`+text+`</a>`, el(0, "a", "k", s), tx(1, s))
	}
}

// P5.1: texts without a byte.
func TestPrintEmpty(t *testing.T) {
	printed(t, "<a/>", el(0, "a"), tx(1, ""))
	printed(t, "<a/>", el(0, "a"), tx(1, ""), tx(1, ""), tx(1, ""))
	printed(t, `<a b=""/>`, el(0, "a", "b", ""), tx(1, ""))
	printed(t, "<a><b/></a>", el(0, "a"), tx(1, ""), el(1, "b"), tx(2, ""), tx(1, ""))
	printed(t, "<a><b/><c/></a>", el(0, "a"), el(1, "b"), tx(2, ""), tx(2, ""), tx(1, ""), el(1, "c"), tx(2, ""))
	printed(t, "<a><b/></a>", el(0, "a"), tx(1, ""), el(1, "b"))
	printed(t, "<a>x</a>", el(0, "a"), tx(1, ""), tx(1, "x"))
	printed(t, "<a>x</a>", el(0, "a"), tx(1, "x"), tx(1, ""))
	printed(t, "<a>xy</a>", el(0, "a"), tx(1, "x"), tx(1, ""), tx(1, "y"))
	printed(t, "<a>xy</a>", el(0, "a"), tx(1, "x"), tx(1, "y"))
	printed(t, "<a>x<b/>y</a>", el(0, "a"), tx(1, "x"), el(1, "b"), tx(2, ""), tx(1, "y"))
	printed(t, "<a><b>x</b>y</a>", el(0, "a"), el(1, "b"), tx(2, "x"), tx(1, "y"))
	printed(t, "<a><b>x</b>y</a>", el(0, "a"), el(1, "b"), tx(2, "x"), tx(2, ""), tx(1, ""), tx(1, "y"))
}

// P5.1, P5.3: texts that are one and then as long as one may be, or longer; as many items, and as deep, as may be.
func TestPrintMost(t *testing.T) {
	half := strings.Repeat("x", api.MaxText/2)
	printed(t, "<a>"+half+half+"</a>", el(0, "a"), tx(1, half), tx(1, half))
	printed(t, "<a>"+half+half+"</a>", el(0, "a"), tx(1, half), tx(1, ""), tx(1, half), tx(1, ""))
	printed(t, "<a>"+half+half+"y</a>", el(0, "a"), tx(1, half), tx(1, half), tx(1, "y"))
	printed(t, "<a>"+half+half+"<b/>y</a>", el(0, "a"), tx(1, half), tx(1, half), el(1, "b"), tx(1, "y"))
	printed(t, "<a><b>"+half+half+"</b>y</a>", el(0, "a"), el(1, "b"), tx(2, half), tx(2, half), tx(1, "y"))
	whole := strings.Repeat("&", api.MaxText)
	long, _ := escape.Value(whole)
	printed(t, `<a k="`+long+`">`+long+`</a>`, el(0, "a", "k", whole), tx(1, whole))
	printed(t, "<a>"+long+long+"</a>", el(0, "a"), tx(1, whole), tx(1, whole))
	if _, at, e := parse.Parse("<a>" + long + "x</a>"); at != 3 || e != api.ErrLexLong {
		t.Errorf("P5.3: %d at %d", e, at)
	}

	below := api.MaxDepth - 1
	printed(t, strings.Repeat("<d>", below)+"<d/>"+strings.Repeat("</d>", below), chain(api.MaxDepth)...)
	printed(t, strings.Repeat("<d>", below)+"x"+strings.Repeat("</d>", below), with(chain(below), tx(below, "x"))...)
	many, texts := row(el(0, "a")), row(el(0, "a"))
	for len(many) < api.MaxNodes {
		many, texts = append(many, el(1, "b")), append(texts, tx(1, "x"))
	}
	printed(t, "<a>"+strings.Repeat("<b/>", api.MaxNodes-1)+"</a>", many...)
	printed(t, "<a>"+strings.Repeat("x", api.MaxNodes-1)+"</a>", texts...)
	name := strings.Repeat("n", api.MaxName)
	printed(t, "<"+name+" "+name+`="">x</`+name+">", el(0, name, name, ""), tx(1, "x"))
}

// refused asks for parse.Check's error and no text.
func refused(t *testing.T, e api.Errno, l ...api.Item) {
	t.Helper()
	was := deep(l)
	if _, check := parse.Check(l); check != e {
		t.Fatalf("P4.2: Check(%s) is %d, not %d", brief(l), check, e)
	}
	if s, got := scribe.Print(l); got != e || s != "" {
		t.Errorf("P5.1: Print(%s) is %.80q, %d, not %d", brief(l), s, got, e)
	}
	if !equal(l, was) {
		t.Errorf("R5: Print(%s)", brief(was))
	}
}

// P5.1: rows that are no document.
func TestPrintRefused(t *testing.T) {
	longer := strings.Repeat("x", api.MaxText+1)
	refused(t, api.ErrParseRoot)
	refused(t, api.ErrTreePlace, tx(0, "x"))
	refused(t, api.ErrTreePlace, tx(0, ""))
	refused(t, api.ErrTreePlace, tx(0, ""), el(0, "a"))
	refused(t, api.ErrTreePlace, el(1, "a"))
	refused(t, api.ErrTreePlace, el(-1, "a"))
	refused(t, api.ErrTreePlace, el(0, "a"), el(0, "b"))
	refused(t, api.ErrTreePlace, el(0, "a"), tx(0, ""))
	refused(t, api.ErrTreePlace, el(0, "a"), el(2, "b"))
	refused(t, api.ErrTreePlace, el(0, "a"), tx(2, ""))
	refused(t, api.ErrTreePlace, el(0, "a"), tx(1, ""), el(2, "b"))
	refused(t, api.ErrTreePlace, el(0, "a"), el(1, "b"), tx(1, ""), tx(2, "x"))
	refused(t, api.ErrTreePlace, el(0, "a"), tx(math.MinInt, "x"))
	refused(t, api.ErrTreePlace, el(0, "a"), tx(math.MaxInt, "x"))
	refused(t, api.ErrTreeKind, el(0, "a"), api.Item{Level: 1})
	refused(t, api.ErrTreeKind, el(0, "a"), api.Item{Level: 1, Kind: 3, Text: "x"})
	refused(t, api.ErrTreeKind, api.Item{Kind: api.Element, Name: "a", Text: "x"})
	refused(t, api.ErrTreeKind, el(0, "a"), api.Item{Level: 1, Kind: api.Text, Name: "b"})
	refused(t, api.ErrTreeKind, el(0, "a"), api.Item{Level: 1, Kind: api.Text, Text: "x", Attrs: attrs("b", "")})
	refused(t, api.ErrTreeName, el(0, ""))
	refused(t, api.ErrTreeName, el(0, "a"), el(1, "1"))
	refused(t, api.ErrTreeName, el(0, "a", "", "x"))
	refused(t, api.ErrTreeName, el(0, "a", "b", "", "b", ""))
	refused(t, api.ErrTreeName, el(0, "a", "c", "", "b", ""))
	refused(t, api.ErrTreeChar, el(0, "a"), tx(1, "x\x80"))
	refused(t, api.ErrTreeChar, el(0, "a", "b", "\x00"))
	refused(t, api.ErrTreeLong, el(0, "a"), tx(1, longer))
	refused(t, api.ErrTreeLong, el(0, "a", "b", longer))
	refused(t, api.ErrParseDeep, chain(api.MaxDepth+1)...)
	refused(t, api.ErrParseDeep, with(chain(api.MaxDepth), tx(api.MaxDepth, ""))...)

	many := row(el(0, "a"), el(1, "b"))
	for len(many) < api.MaxNodes {
		many = append(many, tx(1, ""))
	}
	printed(t, "<a><b/></a>", many...)
	refused(t, api.ErrParseMany, with(many, tx(1, ""))...)
	refused(t, api.ErrParseMany, with(many, el(1, "b"))...)

	crowd := row(el(0, "a"))
	for i := range api.MaxAttrs + 1 {
		crowd[0].Attrs = append(crowd[0].Attrs, api.Attr{Name: "n" + strconv.Itoa(100+i)})
	}
	refused(t, api.ErrTreeLong, crowd...)
}

// P5.2: Normal of documents and of others.
func TestNormal(t *testing.T) {
	a := el(0, "a")
	normal(t, nil)
	normal(t, row())
	normal(t, row(a), a)
	normal(t, row(a, tx(1, "x"), tx(1, ""), tx(1, "y")), a, tx(1, "xy"))
	normal(t, row(a, tx(1, "")), a)
	normal(t, row(a, tx(1, ""), tx(1, "")), a)
	normal(t, row(a, tx(1, ""), tx(1, "x"), tx(1, "")), a, tx(1, "x"))
	normal(t, row(a, tx(1, "x"), tx(1, "y"), tx(1, "z")), a, tx(1, "xyz"))
	normal(t, row(a, tx(1, "x"), tx(1, ""), tx(1, ""), tx(1, "y")), a, tx(1, "xy"))
	normal(t, row(a, tx(1, "x"), el(1, "b"), tx(1, "y")), a, tx(1, "x"), el(1, "b"), tx(1, "y"))
	normal(t, row(a, tx(1, "x"), el(1, "b"), tx(2, ""), tx(1, "y")), a, tx(1, "x"), el(1, "b"), tx(1, "y"))
	normal(t, row(a, el(1, "b"), tx(2, "x"), tx(1, "y"), tx(1, "z")), a, el(1, "b"), tx(2, "x"), tx(1, "yz"))
	normal(t, row(a, el(1, "b"), tx(2, "x"), tx(2, "y"), tx(1, "")), a, el(1, "b"), tx(2, "xy"))
	normal(t, row(el(0, "a", "b", "", "c", "1"), tx(1, "")), el(0, "a", "b", "", "c", "1"))
	normal(t, row(a, el(1, "b"), el(1, "b")), a, el(1, "b"), el(1, "b"))

	normal(t, row(tx(0, "")))
	normal(t, row(tx(0, "x"), tx(0, ""), tx(0, "y")), tx(0, "xy"))
	normal(t, row(tx(1, "x"), tx(2, "y"), tx(1, "z")), tx(1, "x"), tx(2, "y"), tx(1, "z"))
	normal(t, row(tx(1, "x"), tx(2, ""), tx(1, "z")), tx(1, "xz"))
	normal(t, row(tx(1, "x"), tx(0, ""), tx(-7, ""), tx(1, "z")), tx(1, "xz"))
	normal(t, row(tx(math.MinInt, "x"), tx(math.MinInt, "y"), tx(math.MaxInt, "z")), tx(math.MinInt, "xy"), tx(math.MaxInt, "z"))
	normal(t, row(tx(1, "\x80"), tx(1, "\xff")), tx(1, "\x80\xff"))
	// Two halves of a character are one text all the same.
	normal(t, row(tx(1, "\xc3"), tx(1, "\xa9")), tx(1, "\u00e9"))
	// What is no text stays as it is, be it without a Text or with one.
	others := row(api.Item{}, api.Item{Kind: 3, Text: "x"}, api.Item{Kind: 3, Text: "y"}, api.Item{Kind: api.Element, Text: "x"}, api.Item{Kind: api.Element, Text: "y"})
	normal(t, others, others...)
	normal(t, row(tx(0, "x"), api.Item{}, tx(0, "y")), tx(0, "x"), api.Item{}, tx(0, "y"))
}

// P5.2: however long a text gets.
func TestNormalLong(t *testing.T) {
	whole := strings.Repeat("x", api.MaxText)
	normal(t, row(tx(1, whole[1:]), tx(1, "x")), tx(1, whole))
	normal(t, row(tx(1, whole), tx(1, "y")), tx(1, whole+"y"))
	var l []api.Item
	for range 300 {
		l = append(l, tx(1, whole), tx(1, ""))
	}
	normal(t, l, tx(1, strings.Repeat(whole, 300)))
	l = nil
	for range 200000 {
		l = append(l, tx(1, "xyz"))
	}
	normal(t, l, tx(1, strings.Repeat("xyz", 200000)))
}

// P5.2: rows that are the same, and rows that differ in one thing.
func TestSame(t *testing.T) {
	l := row(el(0, "a", "b", "1", "c", "2"), tx(1, "x"), el(1, "d"))
	same(t, l, l, true)
	same(t, l, deep(l), true)
	same(t, nil, nil, true)
	same(t, nil, row(), true)
	same(t, nil, row(api.Item{}), false)
	same(t, l, nil, false)
	same(t, l, l[:2], false)
	same(t, l, l[1:], false)
	same(t, l, with(l, el(1, "d")), false)
	same(t, l, row(l[0], l[2], l[1]), false)
	bare := deep(l)
	bare[2].Attrs = []api.Attr{}
	same(t, l, bare, true)

	changes := []func(i *api.Item){
		func(i *api.Item) { i.Level++ },
		func(i *api.Item) { i.Level = math.MinInt },
		func(i *api.Item) { i.Kind = 3 - i.Kind },
		func(i *api.Item) { i.Kind = 0 },
		func(i *api.Item) { i.Name += "n" },
		func(i *api.Item) { i.Text += " " },
		func(i *api.Item) { i.Text += "\x80" },
		func(i *api.Item) { i.Attrs = append(i.Attrs, api.Attr{}) },
		func(i *api.Item) { i.Attrs = append(i.Attrs, api.Attr{Name: "z"}) },
	}
	for k := range l {
		for _, change := range changes {
			other := deep(l)
			change(&other[k])
			same(t, l, other, false)
			same(t, other, other, true)
		}
	}
	for _, change := range []func(l []api.Attr) []api.Attr{
		func(l []api.Attr) []api.Attr { return nil },
		func(l []api.Attr) []api.Attr { return l[:1] },
		func(l []api.Attr) []api.Attr { return l[1:] },
		func(l []api.Attr) []api.Attr { return []api.Attr{l[1], l[0]} },
		func(l []api.Attr) []api.Attr { l[0].Name = "B"; return l },
		func(l []api.Attr) []api.Attr { l[1].Value = ""; return l },
	} {
		other := deep(l)
		other[0].Attrs = change(other[0].Attrs)
		same(t, l, other, false)
	}
	// Neither is made normal ahead of that.
	same(t, row(tx(0, "xy")), row(tx(0, "x"), tx(0, "y")), false)
	same(t, row(tx(0, "x")), row(tx(0, "x"), tx(0, "")), false)
}

// laid says P5.1 anew: items are written in order, and what is open is closed ahead of what is not in it.
func laid(l []api.Item) string {
	var open []string
	s := ""
	closed := func(level int) {
		for len(open) > level {
			last := len(open) - 1
			if begun := strings.TrimSuffix(s, ">\x00"); begun != s {
				s = begun + "/>"
			} else {
				s += "</" + open[last] + ">"
			}
			open = open[:last]
		}
	}
	// A zero byte marks a beginning behind which nothing is written yet: no document has one.
	for _, i := range l {
		closed(i.Level)
		if i.Kind == 2 && i.Text == "" {
			continue
		}
		s = strings.TrimSuffix(s, "\x00")
		if i.Kind == 2 {
			text, _ := escape.Text(i.Text)
			s += text
			continue
		}
		s += "<" + i.Name
		for _, a := range i.Attrs {
			value, _ := escape.Value(a.Value)
			s += " " + a.Name + `="` + value + `"`
		}
		s += ">\x00"
		open = append(open, i.Name)
	}
	closed(0)
	return s
}

// joined says P5.2 anew: of a text that is not the first one of its run nothing is left but what it adds to that.
func joined(l []api.Item) []api.Item {
	var n []api.Item
	for _, i := range l {
		last := len(n) - 1
		switch {
		case i.Kind != 2:
			n = append(n, i)
		case i.Text == "":
		case last >= 0 && n[last].Kind == 2 && n[last].Level == i.Level:
			n[last].Text += i.Text
		default:
			n = append(n, i)
		}
	}
	return n
}

// rows calls f with every row of l and up to most of the given items.
func rows(l, items []api.Item, most int, f func(l []api.Item)) {
	f(l)
	if most == 0 {
		return
	}
	for _, i := range items {
		rows(append(l[:len(l):len(l)], i), items, most-1, f)
	}
}

// P5.1, P5.2, P5.3: every short row.
func TestRows(t *testing.T) {
	hold := func(l []api.Item) {
		was := deep(l)
		n := scribe.Normal(l)
		if !equal(n, joined(l)) || !equal(scribe.Normal(n), n) {
			t.Fatalf("P5.2: Normal(%s) is %s", brief(l), brief(n))
		}
		if scribe.Same(l, n) != equal(l, n) || !scribe.Same(l, was) || !equal(l, was) {
			t.Fatalf("P5.2: Same(%s, %s)", brief(l), brief(n))
		}
		_, e := parse.Check(l)
		s, got := scribe.Print(l)
		if e != got || e != api.OK && s != "" || e == api.OK && s != laid(l) {
			t.Fatalf("P5.1: Print(%s) is %.80q, %d", brief(l), s, got)
		}
		if e == api.OK {
			follows(t, l)
		}
	}
	all := row(api.Item{}, api.Item{Level: 1, Kind: 2, Name: "b"}, api.Item{Level: 1, Kind: 1, Name: "b", Text: "x"}, el(1, "1"), tx(1, "\x80"))
	for level := -1; level <= 3; level++ {
		all = append(all, el(level, "a"), tx(level, "x"), tx(level, ""), el(level, "b", "c", "<\""))
	}
	rows(nil, all, 3, hold)
	root := row(el(0, "a", "k", "&"))
	rows(root, row(el(1, "b"), el(2, "c"), el(3, "d"), tx(1, "x"), tx(2, "&"), tx(3, "y"), tx(1, ""), tx(2, ""), tx(3, "")), 5, hold)
	rows(root, row(el(1, "b", "c", "\t"), tx(1, "x"), tx(1, ""), tx(2, "y"), tx(2, "")), 7, hold)
	rows(root, row(tx(1, strings.Repeat("x", 750)), tx(1, strings.Repeat("\u00e9", 375)), tx(1, "y"), tx(1, ""), el(1, "b")), 4, hold)
}

// kept asks for what P5.3 says of a text: Parse, Print and Parse again.
func kept(t *testing.T, s string) {
	t.Helper()
	l, _, e := parse.Parse(s)
	if e != api.OK {
		return
	}
	made, e := scribe.Print(l)
	if e != api.OK {
		t.Fatalf("P5.3: Print of Parse(%.80q): %d", s, e)
	}
	again, at, e := parse.Parse(made)
	if e != api.OK || at != 0 || !equal(again, l) {
		t.Fatalf("P5.3: Parse(%.80q) is %s, %d at %d, not %s, as of %.80q", made, brief(again), e, at, brief(l), s)
	}
	if once, e := scribe.Print(again); e != api.OK || once != made {
		t.Fatalf("P5.3: Print(%s) is %.80q, %d, not %.80q", brief(again), once, e, made)
	}
	if !equal(scribe.Normal(l), l) {
		t.Fatalf("P5.3: Normal of Parse(%.80q)", s)
	}
}

// spelt calls f with every text of s and up to most of the given parts.
func spelt(s string, parts []string, most int, f func(s string)) {
	f(s)
	if most == 0 {
		return
	}
	for _, p := range parts {
		spelt(s+p, parts, most-1, f)
	}
}

// P5.3: texts that are documents, as they are printed.
func TestKept(t *testing.T) {
	for s, want := range map[string]string{
		"<a></a>":                         "<a/>",
		"<a\n\t />":                       "<a/>",
		"<a ></a >":                       "<a/>",
		"<a  c=\"2\"\tb=\"1\" />":         `<a b="1" c="2"/>`,
		"<a>&#60;&#x3e;&apos;&quot;</a>":  `<a>&lt;&gt;'"</a>`,
		`<a b="&#39;&apos;'&#34;"/>`:      `<a b="'''&quot;"/>`,
		"<a>&#x41;&#10;&#9;&#13;</a>":     "<a>A\n\t&#13;</a>",
		"<a b=\"&#x41;&#10;&#9;&#13;\"/>": `<a b="A&#10;&#9;&#13;"/>`,
		"<a>x<b></b>y<c >z</c></a>":       "<a>x<b/>y<c>z</c></a>",
		"<a>" + strings.Repeat("&#x26;", api.MaxText) + "</a>": "<a>" + strings.Repeat("&amp;", api.MaxText) + "</a>",
	} {
		l, _, e := parse.Parse(s)
		if e != api.OK {
			t.Fatalf("P4.1: Parse(%.80q): %d", s, e)
		}
		printed(t, want, l...)
		kept(t, s)
	}
	hold := func(s string) { kept(t, s) }
	spelt("", []string{"<a>", "</a>", "<b\n>", "</b >", "<a />", "x", "&#13;"}, 6, hold)
	spelt("<a>", []string{"<a>", "</a>", `<b c="&quot;" b="&#x9;">`, "</b>", "&lt;", "\n", `<c d=""/>`}, 6, hold)
}

// R6: what Normal tells is the caller's own.
func TestOwn(t *testing.T) {
	shared := attrs("b", "1", "c", "2", "d", "3")
	l := row(el(0, "a"), el(1, "a"), tx(1, "x"), tx(1, "y"), tx(1, ""), el(1, "a"), el(1, "a"))
	l[0].Attrs, l[1].Attrs, l[5].Attrs, l[6].Attrs = shared, shared, shared[:2], shared[:0]
	was := deep(l)
	n := scribe.Normal(l)
	want := deep(n)
	for k := range n {
		for i := range n[k].Attrs {
			n[k].Attrs[i] = api.Attr{Name: "z", Value: strconv.Itoa(k)}
		}
		n[k].Attrs = append(n[k].Attrs, api.Attr{Name: "y"})
		for later := k + 1; later < len(n); later++ {
			if !exact(n[later], want[later]) {
				t.Fatal("R6:", later, n[later])
			}
		}
		n[k] = api.Item{Name: "w"}
	}
	_ = append(n, api.Item{Name: "v"})
	if !equal(l, was) {
		t.Error("R6, R5:", l)
	}
	if shared[2] != (api.Attr{Name: "d", Value: "3"}) {
		t.Error("R6:", shared)
	}
	if again := scribe.Normal(l); !equal(again, want) {
		t.Error("R7:", again)
	}
	// Nor does a later change of what was handed in reach what was told.
	n = scribe.Normal(l)
	for k := range l {
		l[k].Text = "w"
	}
	clear(shared)
	if !equal(n, want) {
		t.Error("R6:", n)
	}
}

// R6: what stands in the caller's list behind what was handed in stays.
func TestBehind(t *testing.T) {
	l := row(el(0, "a"), tx(1, ""), tx(1, "x"), tx(1, "y"), el(1, "b"), tx(1, "z"))
	was := deep(l)
	for n := range l {
		scribe.Print(l[:n])
		scribe.Normal(l[:n])
		scribe.Same(l[:n], l)
	}
	if !equal(l, was) {
		t.Error("R5:", l)
	}
}

func FuzzKept(f *testing.F) {
	for _, s := range []string{"", "<a/>", `<a k="1">x<b/><c>y</c></a>`, "<a>&#13;</a>", `<a b="&#9;&quot;"/>`} {
		f.Add(s)
	}
	f.Fuzz(func(t *testing.T, s string) { kept(t, s) })
}
