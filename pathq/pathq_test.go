package pathq_test

import (
	"math"
	"slices"
	"strconv"
	"strings"
	"testing"

	"incunable/api"
	"incunable/pathq"
)

// same tells whether two rows of steps are alike; an empty list is as good as none (R3).
func same(a, b []api.Step) bool {
	return slices.EqualFunc(a, b, func(a, b api.Step) bool {
		return a.Axis == b.Axis && a.Test == b.Test && a.Name == b.Name && slices.Equal(a.Preds, b.Preds)
	})
}

// step is one of an axis, with a test: "*", "text()", "node()", or a name.
func step(axis int, test string, preds ...api.Pred) api.Step {
	s := api.Step{Axis: axis, Preds: preds}
	switch test {
	case "*":
		s.Test = api.Any
	case "text()":
		s.Test = api.Texts
	case "node()":
		s.Test = api.AnyNode
	default:
		s.Test, s.Name = api.Named, test
	}
	return s
}

func place(n int) api.Pred           { return api.Pred{Kind: api.Place, N: n} }
func has(name string) api.Pred       { return api.Pred{Kind: api.Has, Name: name} }
func equals(name, v string) api.Pred { return api.Pred{Kind: api.Equals, Name: name, Value: v} }
func says(v string) api.Pred         { return api.Pred{Kind: api.Says, Value: v} }

var (
	last   = api.Pred{Kind: api.Last}
	within = step(api.Within, "node()")
)

// repeated is a row of one step, again and again.
func repeated(s api.Step, many int) []api.Step { return slices.Repeat([]api.Step{s}, many) }

func told(t *testing.T, q string, want ...api.Step) {
	t.Helper()
	if l, at, e := pathq.Parse(q); e != api.OK || at != 0 || !same(l, want) {
		t.Errorf("P7.1: Parse(%.210q) is %v, %d at %d, not %v", q, l, e, at, want)
	}
	if !pathq.Right(want) {
		t.Errorf("P7.3: what Parse(%.210q) should tell is not Right", q)
	}
}

func refused(t *testing.T, q string, at int, e api.Errno) {
	t.Helper()
	if l, place, amiss := pathq.Parse(q); amiss != e || place != at || len(l) != 0 {
		t.Errorf("P7.1: Parse(%.210q) is %v, %d at %d, not %d at %d", q, l, amiss, place, e, at)
	}
}

var axes = []string{"child", "descendant", "descendant-or-self", "parent", "ancestor", "following-sibling", "preceding-sibling", "self"}

// P7.1: each axis, with each test, and none.
func TestAxes(t *testing.T) {
	for i, a := range axes {
		for _, test := range []string{"*", "text()", "node()", "a", a, "text", "node"} {
			told(t, "/"+a+"::"+test, step(i+1, test))
			told(t, "//"+a+"::"+test, within, step(i+1, test))
			told(t, "/a/"+a+"::"+test+"[1]/b", step(api.Child, "a"), step(i+1, test, place(1)), step(api.Child, "b"))
		}
		refused(t, "/"+a+"::", len(a)+3, api.ErrQueryForm)
		refused(t, "/"+a+":a", len(a)+1, api.ErrQueryForm)
		refused(t, "/"+a+":", len(a)+1, api.ErrQueryForm)
		refused(t, "/"+a+"x::a", len(a)+2, api.ErrQueryForm)
		refused(t, "/x"+a+"::a", len(a)+2, api.ErrQueryForm)
		refused(t, "/"+a+"::"+a+"::a", 2*len(a)+3, api.ErrQueryForm)
		refused(t, "/"+a+"::.", len(a)+3, api.ErrQueryForm)
		refused(t, "/"+a+"::..", len(a)+3, api.ErrQueryForm)
		refused(t, "/"+a+"::/a", len(a)+3, api.ErrQueryForm)
		refused(t, "/"+a+"::[1]", len(a)+3, api.ErrQueryForm)
		refused(t, "/"+a+":: a", len(a)+3, api.ErrQueryForm)
		refused(t, "/ "+a+"::a", 1, api.ErrQueryForm)
	}
	for _, test := range []string{"*", "text()", "node()", "a"} {
		told(t, "/"+test, step(api.Child, test))
		told(t, "//"+test, within, step(api.Child, test))
	}
	refused(t, "/attribute::a", 10, api.ErrQueryForm)
	refused(t, "/Child::a", 6, api.ErrQueryForm)
	refused(t, "/::a", 1, api.ErrQueryForm)
}

// P7.1: slashes, and the steps that are short for others.
func TestShort(t *testing.T) {
	a, up, self := step(api.Child, "a"), step(api.Up, "node()"), step(api.Self, "node()")
	told(t, "/a//b[2]", a, within, step(api.Child, "b", place(2)))
	told(t, "/.", self)
	told(t, "/..", up)
	told(t, "//.", within, self)
	told(t, "//..", within, up)
	told(t, "/./..//./a", self, up, within, self, a)
	told(t, "/a/..//a//..", a, up, within, a, within, up)
	told(t, "//a//a", within, a, within, a)
	told(t, "/descendant-or-self::node()/a", within, a)
	for _, r := range []struct {
		q  string
		at int
	}{
		{"", 0}, {"a", 0}, {".", 0}, {"..", 0}, {"*", 0}, {"[1]", 0}, {" /a", 0}, {"\x80", 0}, {"a/b", 0}, {"child::a", 0},
		{"/", 1}, {"//", 2}, {"///", 2}, {"///a", 2}, {"////", 2}, {"/ /a", 1}, {"/a/", 3}, {"/a//", 4}, {"/a///b", 4}, {"/./", 3}, {"/..//", 5},
		{"/...", 3}, {"/....", 3}, {"/.a", 2}, {"/..a", 3}, {"/.[1]", 2}, {"/..[1]", 3}, {"/.*", 2}, {"/..1", 3}, {"/.text()", 2}, {"/.::a", 2}, {"/. ", 2}, {"/.. ", 3}, {"/.\xff", 2}, {"/.-", 2},
		{"/@k", 1}, {"/[1]", 1}, {"//[1]", 2}, {"/]", 1}, {"/=", 1}, {"/\"a\"", 1}, {"/(a)", 1}, {"/|", 1}, {"/\n", 1}, {"/a|/b", 2},
	} {
		refused(t, r.q, r.at, api.ErrQueryForm)
	}
}

// P7.1: tests, and names, that look like something else too.
func TestTests(t *testing.T) {
	for _, name := range []string{
		"a", "Z", "_", "a-1.b", "a.", "a..", "a-", "text", "node", "last", "texts", "self", "child", "parent", "ancestor", "descendant", "descendant-or-self", "following-sibling",
		"\u00e9", "\u00e9t\u00e9", "a\u00b7", "e\u0301", "\u20ac\u20ac", "\u2070", "\U00010000", "a\U000effff", "\ufffd",
		strings.Repeat("n", 60), strings.Repeat("\u00e9", 30), strings.Repeat("\U00010000", 15),
	} {
		told(t, "/"+name, step(api.Child, name))
		told(t, "/"+name+"/"+name, step(api.Child, name), step(api.Child, name))
		told(t, "/self::"+name+"[@"+name+"]", step(api.Self, name, has(name)))
		told(t, "/*[@"+name+`="x"][1]`, step(api.Child, "*", equals(name, "x"), place(1)))
	}
	for _, r := range []struct {
		q  string
		at int
	}{
		{"/1", 1}, {"/1a", 1}, {"/-a", 1}, {"/a/1b", 3}, {"/self::.a", 7}, {"/self::1", 7}, {"/\u00b7", 1}, {"/\u0301e", 1}, {"/\u203f", 1},
		{"/\u00d7", 1}, {"/a\u00d7", 2}, {"/\u2190", 1}, {"/a\u2190", 2}, {"/a\U000f0000", 2}, {"/\x80", 1}, {"/a\xc3", 2}, {"/\u00e9\xa9", 3}, {"/a\xc0\x80", 2}, {"/a\xed\xa0\x80", 2}, {"/a\x00", 2}, {"/a\uffff", 2},
		{"/a b", 2}, {"/a ", 2}, {"/a\t/b", 2}, {"/a:b", 2}, {"/a*", 2}, {"/**", 2}, {"/*a", 2}, {"/*()", 2}, {"/a@k", 2}, {"/a]", 2}, {"/a=", 2}, {"/a\"", 2}, {"/a&amp;", 2},
		{"/text(", 5}, {"/text)", 5}, {"/text( )", 5}, {"/text ()", 5}, {"/text()()", 7}, {"/text()a", 7}, {"/text():", 7}, {"/node(", 5}, {"/node()1", 7}, {"/node().", 7}, {"/node()*", 7}, {"/node()node()", 7},
		{"/last()", 5}, {"/a()", 2}, {"/texts()", 6}, {"/xtext()", 6}, {"/comment()", 8}, {"/text\u00e9()", 7},
		{"/" + strings.Repeat("n", 61), 1}, {"/" + strings.Repeat("n", 61) + " ", 1}, {"/a//" + strings.Repeat("n", 61) + "/b", 4}, {"/self::" + strings.Repeat("n", 61), 7}, {"/" + strings.Repeat("n", 199), 1},
		{"/" + strings.Repeat("\u00e9", 30) + "n", 1}, {"/" + strings.Repeat("\u00e9", 31), 1}, {"/" + strings.Repeat("n", 61) + "\x80", 1}, {"/" + strings.Repeat("n", 60) + "\x80", 61}, {"/" + strings.Repeat("n", 60) + "(", 61},
	} {
		refused(t, r.q, r.at, api.ErrQueryForm)
	}
}

// P7.1: predicates of each kind, alone and one behind the other.
func TestPredicates(t *testing.T) {
	for in, want := range map[string]api.Pred{
		"1": place(1), "9": place(9), "10": place(10), "99": place(99), "100": place(100), "999": place(999), "1000": place(1000), "9999": place(9999), "1203": place(1203),
		"last()": last, "@k": has("k"), "@text": has("text"), "@last": has("last"), "@\u00e9.-1": has("\u00e9.-1"), "@" + strings.Repeat("n", 60): has(strings.Repeat("n", 60)),
		`@k=""`: equals("k", ""), `@k="v"`: equals("k", "v"), `@k=" = ] / [1] '"`: equals("k", " = ] / [1] '"), `@k="&lt;&amp;&gt;&quot;&apos;"`: equals("k", `<&>"'`), `@k="&#9;&#xA;&#13;&#x41;"`: equals("k", "\t\n\rA"), "@k=\"\u20ac\U0010ffff\"": equals("k", "\u20ac\U0010ffff"), `@k="&amp;lt;"`: equals("k", "&lt;"),
		`text()=""`: says(""), `text()="x"`: says("x"), `text()="]"`: says("]"), `text()="&quot;"`: says(`"`), `text()="&#34;x&#34;"`: says(`"x"`), "text()=\" \u00e9 \"": says(" \u00e9 "),
	} {
		told(t, "/a["+in+"]", step(api.Child, "a", want))
		for _, test := range []string{"*", "text()", "node()", "a"} {
			told(t, "//"+test+"["+in+"]", within, step(api.Child, test, want))
			told(t, "/ancestor::"+test+"["+in+"]/..", step(api.Ancestor, test, want), step(api.Up, "node()"))
		}
		told(t, "/a["+in+"]["+in+"]", step(api.Child, "a", want, want))
		told(t, "/a[1]["+in+"][last()]//b["+in+"]", step(api.Child, "a", place(1), want, last), within, step(api.Child, "b", want))
		refused(t, "/a["+in, 3+len(in), api.ErrQueryForm)
		refused(t, "/a["+in+" ]", 3+len(in), api.ErrQueryForm)
		refused(t, "/a["+in+"/", 3+len(in), api.ErrQueryForm)
		refused(t, "/a["+in+"[1]", 3+len(in), api.ErrQueryForm)
		refused(t, "/a["+in+"]]", 4+len(in), api.ErrQueryForm)
		refused(t, "/a["+in+"]b", 4+len(in), api.ErrQueryForm)
		refused(t, "/a["+in+"].", 4+len(in), api.ErrQueryForm)
		refused(t, "/a[ "+in+"]", 3, api.ErrQueryForm)
		refused(t, "/a ["+in+"]", 2, api.ErrQueryForm)
	}
}

// P7.1: what is amiss with a predicate.
func TestPredicateAmiss(t *testing.T) {
	for _, r := range []struct {
		q  string
		at int
	}{
		{"/a[", 3}, {"/a[]", 3}, {"/a[[1]]", 3}, {"/a[/", 3}, {"/a[x]", 3}, {"/a[*]", 3}, {"/a[-1]", 3}, {"/a[+1]", 3}, {"/a[=1]", 3}, {`/a["x"]`, 3}, {"/a[.]", 3}, {"/a[\xff]", 3}, {"/a[\u0661]", 3}, {"/a[\u00e9]", 3},
		{"/a[0]", 3}, {"/a[00]", 3}, {"/a[01]", 3}, {"/a[0001]", 3}, {"/a[00001]", 3}, {"/a[0", 3}, {"/a[0x", 3}, {"/a[10000]", 3}, {"/a[99999]", 3}, {"/a[12345", 3}, {"/a[12345x", 3}, {"/a[1][10000]", 6}, {"/a[1][0]", 6},
		{"/a[" + strings.Repeat("9", 190) + "]", 3}, {"/a[4294967297]", 3}, {"/a[18446744073709551617]", 3},
		{"/a[1", 4}, {"/a[9999", 7}, {"/a[1a]", 4}, {"/a[1.0]", 4}, {"/a[1,2]", 4}, {"/a[1 ]", 4}, {"/a[1)", 4}, {"/a[12@k]", 5}, {"/a[1\u0661]", 4},
		{"/a[last", 3}, {"/a[last]", 3}, {"/a[last(]", 3}, {"/a[last( )]", 3}, {"/a[Last()]", 3}, {"/a[last()", 9}, {"/a[last()1]", 9}, {`/a[last()="x"]`, 9}, {"/a[last()last()]", 9},
		{"/a[@]", 4}, {"/a[@", 4}, {"/a[@1]", 4}, {"/a[@-k]", 4}, {"/a[@.]", 4}, {"/a[@*]", 4}, {`/a[@="v"]`, 4}, {"/a[@@k]", 4}, {"/a[@ k]", 4}, {"/a[@\x80]", 4}, {"/a[@" + strings.Repeat("n", 61) + "]", 4}, {"/a[@" + strings.Repeat("n", 61), 4}, {"/a[@" + strings.Repeat("n", 60), 64},
		{"/a[@k", 5}, {"/a[@k ]", 5}, {`/a[@k ="v"]`, 5}, {"/a[@k:l]", 5}, {`/a[@k"v"]`, 5}, {"/a[@k()]", 5}, {"/a[@k@l]", 5}, {"/a[@k\xc3]", 5}, {"/a[@\u00e9", 6},
		{"/a[@k=", 6}, {"/a[@k=]", 6}, {"/a[@k=1]", 6}, {"/a[@k=v]", 6}, {"/a[@k='v']", 6}, {`/a[@k= "v"]`, 6}, {`/a[@k=="v"]`, 6},
		{`/a[@k="`, 7}, {`/a[@k="1]`, 9}, {`/a[@k="v]/b`, 11}, {"/a[@k=\"\u00e9]", 10}, {`/a[@k="v"`, 9}, {`/a[@k="v" ]`, 9}, {`/a[@k="v"x]`, 9}, {`/a[@k="v"="v"]`, 9}, {`/a[@k="v""]`, 9}, {`/a[@k=""`, 8}, {`/a[@k="&quot;]`, 14},
		{"/a[text", 3}, {"/a[text]", 3}, {"/a[text(]", 3}, {`/a[text="x"]`, 3}, {"/a[node()]", 3}, {`/a[node()="x"]`, 3}, {"/a[text()", 9}, {"/a[text()]", 9}, {`/a[text() ="x"]`, 9}, {`/a[text()"x"]`, 9}, {"/a[text()/b]", 9}, {"/a[text()[1]]", 9},
		{"/a[text()=", 10}, {"/a[text()=]", 10}, {"/a[text()=x]", 10}, {`/a[text()='x']`, 10}, {`/a[text()="`, 11}, {`/a[text()="x`, 12}, {`/a[text()="x]`, 13}, {`/a[text()="x"`, 13}, {`/a[text()="x"y]`, 13}, {`/a[text()="x"[1]`, 13},
		{"/text()[", 8}, {"/node()[0]", 8}, {"/*[x]", 3}, {"/self::a[@]", 10},
	} {
		refused(t, r.q, r.at, api.ErrQueryForm)
	}
}

// P7.1: what Undo has against a value, at its place.
func TestValueAmiss(t *testing.T) {
	for _, r := range []struct {
		v  string
		at int
		e  api.Errno
	}{
		{"&", 0, api.ErrEscapeForm}, {"x&", 1, api.ErrEscapeForm}, {"a&b;", 1, api.ErrEscapeForm}, {"&lt;&lt", 4, api.ErrEscapeForm}, {"\u20ac&#;", 3, api.ErrEscapeForm}, {"<", 0, api.ErrEscapeForm}, {"a<b>", 1, api.ErrEscapeForm}, {"]>", 1, api.ErrEscapeForm},
		{"&#0;", 0, api.ErrEscapeChar}, {"ab&#xd800;", 2, api.ErrEscapeChar}, {"\t", 0, api.ErrEscapeChar}, {"x\n", 1, api.ErrEscapeChar}, {"xy\r", 2, api.ErrEscapeChar}, {"\x00", 0, api.ErrEscapeChar}, {"&amp;\x80", 5, api.ErrEscapeChar}, {"a\xc0\x80", 1, api.ErrEscapeChar}, {"\ufffe", 0, api.ErrEscapeChar},
		{"&\t", 0, api.ErrEscapeForm}, {"\t&", 0, api.ErrEscapeChar},
	} {
		for _, ahead := range []string{`/a[@k="`, `/a[text()="`, `//*[1][@k="v"]/b[last()][@k="`, `/self::node()[text()=""][text()="`} {
			refused(t, ahead+r.v+`"]`, len(ahead)+r.at, r.e)
			refused(t, ahead+r.v+`"`, len(ahead)+r.at, r.e)
			refused(t, ahead+r.v+`"x]/`, len(ahead)+r.at, r.e)
			refused(t, ahead+r.v+`]`, len(ahead+r.v)+1, api.ErrQueryForm)
		}
	}
}

// P7.1: 20 steps, and one more; each // takes one for itself.
func TestManySteps(t *testing.T) {
	a, as := step(api.Child, "a"), func(n int) string { return strings.Repeat("/a", n) }
	told(t, as(20), repeated(a, 20)...)
	told(t, as(18)+"//a", append(repeated(a, 18), within, a)...)
	told(t, "//a"+as(18), append([]api.Step{within}, repeated(a, 19)...)...)
	told(t, strings.Repeat("//a", 10), slices.Repeat([]api.Step{within, a}, 10)...)
	told(t, strings.Repeat("/..", 20), repeated(step(api.Up, "node()"), 20)...)
	told(t, strings.Repeat("//.", 10), slices.Repeat([]api.Step{within, step(api.Self, "node()")}, 10)...)
	told(t, as(19)+"/a[1][1][1][1][1]", append(repeated(a, 19), step(api.Child, "a", slices.Repeat([]api.Pred{place(1)}, 5)...))...)
	for _, r := range []struct {
		q  string
		at int
	}{
		{as(21), 40}, {as(100), 40}, {as(20) + "/", 40}, {as(20) + "//", 40}, {as(20) + "//a", 40}, {as(20) + "/..", 40}, {as(20) + "/1", 40}, {as(20) + "[", 41}, {as(20) + " ", 40},
		{as(19) + "//a", 38}, {as(19) + "//", 38}, {as(19) + "//.", 38}, {as(19) + "///", 38}, {as(19) + "/", 39}, {as(19) + "/1", 39}, {as(18) + "//", 38}, {as(18) + "//a/a", 39},
		{strings.Repeat("//a", 10) + "/a", 30}, {strings.Repeat("//a", 11), 30}, {"//a" + as(19), 39}, {strings.Repeat("/.", 21), 40}, {strings.Repeat("/..", 21), 60}, {strings.Repeat("//..", 9) + "/../..//", 42},
		{as(19) + "/a[0]" + as(3), 41}, {"/1" + as(30), 1},
	} {
		refused(t, r.q, r.at, api.ErrQueryForm)
	}
}

// P7.1: 5 predicates, and one more.
func TestManyPreds(t *testing.T) {
	told(t, "/a[1][2][3][4][5]", step(api.Child, "a", place(1), place(2), place(3), place(4), place(5)))
	told(t, "/a[1][2][3][4][5]/b[1][last()][@k][@k=\"\"][text()=\"\"]", step(api.Child, "a", place(1), place(2), place(3), place(4), place(5)), step(api.Child, "b", place(1), last, has("k"), equals("k", ""), says("")))
	for _, test := range []string{"a", "*", "text()", "node()", "self::a"} {
		five := "/" + test + strings.Repeat("[@k]", 5)
		for _, behind := range []string{"[1]", "[", "[0]", "[x]", "[1]/1"} {
			refused(t, five+behind, len(five), api.ErrQueryForm)
			refused(t, "//b"+five+behind, len(five)+3, api.ErrQueryForm)
		}
	}
}

// P7.1: MaxQuery bytes, and one more; a text that is longer is asked for nothing else.
func TestLongQuery(t *testing.T) {
	value := func(bytes int) string { return strings.Repeat("v", bytes) }
	told(t, `/a[@k="`+value(191)+`"]`, step(api.Child, "a", equals("k", value(191))))
	told(t, `/a[text()="`+strings.Repeat("&lt;", 46)+`v"]/b`, step(api.Child, "a", says(strings.Repeat("<", 46)+"v")), step(api.Child, "b"))
	told(t, `/a[text()="`+strings.Repeat("\u20ac", 62)+`"]`, step(api.Child, "a", says(strings.Repeat("\u20ac", 62))))
	for _, q := range []string{`/a[@k="` + value(192) + `"]`, `/a[@k="` + value(194), strings.Repeat("/", 201), strings.Repeat("/a", 101), "a" + value(200), strings.Repeat("\x80", 201), `/a[text()="` + strings.Repeat("\u20ac", 63) + `"]`, strings.Repeat("/a", 5000)} {
		if len(q) <= 200 {
			t.Fatal("not too long:", len(q))
		}
		refused(t, q, 0, api.ErrQueryLong)
	}
	refused(t, strings.Repeat("/", 200), 2, api.ErrQueryForm)
	refused(t, `/a[@k="`+value(193), 200, api.ErrQueryForm)
	refused(t, `/a[@k="`+value(192)+`"`, 200, api.ErrQueryForm)
	refused(t, strings.Repeat("x", 200), 0, api.ErrQueryForm)
}

// P7.1: where several things are amiss the first one is told.
func TestFirst(t *testing.T) {
	for _, r := range []struct {
		q  string
		at int
		e  api.Errno
	}{
		{"/1[0]", 1, api.ErrQueryForm}, {"/a[0][@]", 3, api.ErrQueryForm}, {"/a b[0]", 2, api.ErrQueryForm}, {`/a[@k="&"][0]`, 7, api.ErrEscapeForm}, {`/a[0][@k="&"]`, 3, api.ErrQueryForm}, {`/a[@1="&"]`, 4, api.ErrQueryForm}, {`/a[@k="&"`, 7, api.ErrEscapeForm},
		{`/a[@k="&"]` + strings.Repeat("/a", 30), 7, api.ErrEscapeForm}, {strings.Repeat("/a", 20) + `/a[@k="&"]`, 40, api.ErrQueryForm}, {`/a[@k="x"y="&"]`, 9, api.ErrQueryForm}, {`/a[1][1][1][1][@k="&#0;"][1]`, 19, api.ErrEscapeChar}, {`/a[1][1][1][1][1][@k="&"]`, 17, api.ErrQueryForm},
		{`/a[@k="v]/b[text()="<"]`, 20, api.ErrQueryForm}, {`/a[@k="&]/b[text()="<"]`, 7, api.ErrEscapeForm}, {"/a[@k=\"\t", 8, api.ErrQueryForm}, {`/a[@k="&`, 8, api.ErrQueryForm},
		{"/" + strings.Repeat("n", 61) + "[0]", 1, api.ErrQueryForm}, {"/a[@" + strings.Repeat("n", 61) + `="&"]`, 4, api.ErrQueryForm},
	} {
		refused(t, r.q, r.at, r.e)
	}
}

// P7.2: what a step may not be, each thing alone, ahead of and behind steps that are right.
func TestNotRight(t *testing.T) {
	good, odd := step(api.Child, "a", place(1)), "\xc3"
	for i, s := range []api.Step{
		{}, {Axis: 1}, {Test: 2}, {Axis: 0, Test: 2}, {Axis: -1, Test: 2}, {Axis: 9, Test: 2}, {Axis: 10, Test: 2}, {Axis: math.MaxInt, Test: 2}, {Axis: math.MinInt, Test: 2},
		{Axis: 1, Test: 0}, {Axis: 1, Test: 0, Name: "a"}, {Axis: 1, Test: -1}, {Axis: 1, Test: 5}, {Axis: 1, Test: 5, Name: "a"}, {Axis: 1, Test: math.MaxInt}, {Axis: 1, Test: math.MinInt},
		{Axis: 1, Test: 1}, {Axis: 1, Test: 1, Name: "1"}, {Axis: 1, Test: 1, Name: "-a"}, {Axis: 1, Test: 1, Name: "a b"}, {Axis: 1, Test: 1, Name: "*"}, {Axis: 1, Test: 1, Name: "text()"}, {Axis: 1, Test: 1, Name: "."}, {Axis: 1, Test: 1, Name: "a:b"}, {Axis: 1, Test: 1, Name: odd}, {Axis: 1, Test: 1, Name: "a" + odd}, {Axis: 1, Test: 1, Name: strings.Repeat("n", 61)}, {Axis: 1, Test: 1, Name: strings.Repeat("\u00e9", 31)},
		{Axis: 1, Test: 2, Name: "a"}, {Axis: 1, Test: 3, Name: "a"}, {Axis: 1, Test: 4, Name: "a"}, {Axis: 1, Test: 2, Name: "*"}, {Axis: 1, Test: 3, Name: "text()"}, {Axis: 8, Test: 4, Name: "."}, {Axis: 1, Test: 2, Name: odd},
		step(1, "a", slices.Repeat([]api.Pred{last}, 6)...), step(1, "a", slices.Repeat([]api.Pred{last}, 1000)...), step(1, "*", make([]api.Pred, 6)...),
	} {
		notRight(t, i, s, good)
	}
	for i, p := range []api.Pred{
		{}, {N: 1}, {Name: "a"}, {Value: "x"}, {Kind: 6}, {Kind: -1}, {Kind: math.MaxInt}, {Kind: math.MinInt}, {Kind: 6, N: 1, Name: "a", Value: "x"}, {Kind: 6, Name: "a"},
		{Kind: api.Place}, {Kind: api.Place, N: -1}, {Kind: api.Place, N: 10000}, {Kind: api.Place, N: math.MaxInt}, {Kind: api.Place, N: math.MinInt}, {Kind: api.Place, N: 1, Name: "a"}, {Kind: api.Place, N: 1, Value: "x"},
		{Kind: api.Last, N: 1}, {Kind: api.Last, N: -1}, {Kind: api.Last, Name: "a"}, {Kind: api.Last, Value: "x"},
		{Kind: api.Has}, {Kind: api.Has, Name: "1"}, {Kind: api.Has, Name: "a="}, {Kind: api.Has, Name: odd}, {Kind: api.Has, Name: strings.Repeat("n", 61)}, {Kind: api.Has, Name: "a", N: 1}, {Kind: api.Has, Name: "a", Value: "x"}, {Kind: api.Has, Value: "x"},
		{Kind: api.Equals}, {Kind: api.Equals, Value: "x"}, {Kind: api.Equals, Name: "-", Value: "x"}, {Kind: api.Equals, Name: odd, Value: "x"}, {Kind: api.Equals, Name: strings.Repeat("n", 61), Value: "x"}, {Kind: api.Equals, Name: "a", Value: "x", N: 1}, {Kind: api.Equals, Name: "a", Value: "\x00"}, {Kind: api.Equals, Name: "a", Value: odd}, {Kind: api.Equals, Name: "a", Value: "x" + odd}, {Kind: api.Equals, Name: "a", Value: "\ufffe"},
		{Kind: api.Says, Name: "a"}, {Kind: api.Says, N: 1}, {Kind: api.Says, Value: "x", Name: "a"}, {Kind: api.Says, Value: "x", N: 1}, {Kind: api.Says, Value: "\x00"}, {Kind: api.Says, Value: odd}, {Kind: api.Says, Value: "x\x80"}, {Kind: api.Says, Value: "\xed\xa0\x80"}, {Kind: api.Says, Value: "\xc0\x80"},
	} {
		notRight(t, i, step(1, "a", p), good)
		notRight(t, i, step(8, "*", last, p), good)
		notRight(t, i, step(8, "node()", p, last, last, last, last), good)
	}
	for i, l := range [][]api.Step{nil, {}, repeated(good, 21), repeated(good, 1000), make([]api.Step, 20), make([]api.Step, 21)} {
		if s, is := pathq.Print(l); is || s != "" || pathq.Right(l) {
			t.Errorf("P7.2: row %d is Right: %q", i, s)
		}
	}
}

// notRight asks for a step alone, and among others.
func notRight(t *testing.T, i int, s, good api.Step) {
	t.Helper()
	for _, l := range [][]api.Step{{s}, {s, good}, {good, s}, append(repeated(good, 19), s)} {
		if made, is := pathq.Print(l); is || made != "" || pathq.Right(l) {
			t.Errorf("P7.2: %d: %v is Right: %q", i, l, made)
		}
	}
	if !pathq.Right(repeated(good, 20)) {
		t.Error("P7.2: not Right:", good)
	}
}

func printed(t *testing.T, want string, l ...api.Step) {
	t.Helper()
	if !pathq.Right(l) {
		t.Errorf("P7.2: %v is not Right", l)
	}
	if s, is := pathq.Print(l); !is || s != want {
		t.Errorf("P7.2: Print(%v) is %q, %v, not %q", l, s, is, want)
	}
	back, at, e := pathq.Parse(want)
	if len(want) > api.MaxQuery {
		if e != api.ErrQueryLong || at != 0 || len(back) != 0 {
			t.Errorf("P7.1: Parse of %d bytes: %v, %d at %d", len(want), back, e, at)
		}
	} else if e != api.OK || at != 0 || !same(back, l) {
		t.Errorf("P7.3: Parse(%q) is %v, %d at %d, not %v", want, back, e, at, l)
	}
}

// P7.2, P7.3: what is Right is printed, with every axis and test, and read again.
func TestPrint(t *testing.T) {
	preds := map[string]api.Pred{
		"[1]": place(1), "[9]": place(9), "[10]": place(10), "[9999]": place(9999), "[last()]": last, "[@k]": has("k"), "[@last]": has("last"), "[@\u00e9.-1]": has("\u00e9.-1"),
		`[@k=""]`: equals("k", ""), `[@k="v"]`: equals("k", "v"), `[@k="]["]`: equals("k", "]["), `[@k="&quot;&amp;&lt;&gt;'"]`: equals("k", `"&<>'`), `[@k="&#9;&#10;&#13; "]`: equals("k", "\t\n\r "), `[@k="&amp;lt;"]`: equals("k", "&lt;"),
		`[text()=""]`: says(""), `[text()="x"]`: says("x"), `[text()="&quot;]/&quot;"]`: says(`"]/"`), `[text()="&#9;&#10;&#13;"]`: says("\t\n\r"), "[text()=\"\u20ac\U0010ffff\"]": says("\u20ac\U0010ffff"),
	}
	for i, a := range axes {
		for _, test := range append([]string{"*", "text()", "node()", "a", "text", "node", "last", "\u00e9", strings.Repeat("n", 60)}, axes...) {
			head := "/" + a + "::" + test
			printed(t, head, step(i+1, test))
			printed(t, head+head, step(i+1, test), step(i+1, test))
			for in, p := range preds {
				printed(t, head+in, step(i+1, test, p))
				printed(t, "/self::*"+head+in+"[last()]"+in+"/child::b"+in, step(api.Self, "*"), step(i+1, test, p, last, p), step(api.Child, "b", p))
				printed(t, head+strings.Repeat(in, 5), step(i+1, test, slices.Repeat([]api.Pred{p}, 5)...))
			}
		}
	}
	for n := 1; n <= 9999; n++ {
		printed(t, "/child::a["+strconv.Itoa(n)+"]", step(api.Child, "a", place(n)))
	}
	printed(t, "/child::a/descendant-or-self::node()/child::b[2]", step(api.Child, "a"), within, step(api.Child, "b", place(2)))
	printed(t, strings.Repeat("/self::a", 20), repeated(step(api.Self, "a"), 20)...)
}

// P7.2, P7.3: what is as long as MaxQuery when it is printed, and longer.
func TestPrintLong(t *testing.T) {
	for _, n := range []int{183, 184, 185, 186, 1000, 1501, 100000} {
		v := strings.Repeat("v", n)
		printed(t, `/child::a[@k="`+v+`"]`, step(api.Child, "a", equals("k", v)))
		printed(t, `/child::a[text()="`+strings.Repeat("&lt;", n)+`"]`, step(api.Child, "a", says(strings.Repeat("<", n))))
	}
	name := strings.Repeat("n", 60)
	long := step(api.Preceding, name, slices.Repeat([]api.Pred{equals(name, "&")}, 5)...)
	printed(t, strings.Repeat("/preceding-sibling::"+name+strings.Repeat("[@"+name+`="&amp;"]`, 5), 20), repeated(long, 20)...)
	printed(t, strings.Repeat("/following-sibling::node()", 20), repeated(step(api.Following, "node()"), 20)...)
}

// R5, R6: what is given stays, and what was told is the caller's own.
func TestOwn(t *testing.T) {
	q := `//a[1][@k="v"]//b[last()]/..`
	first, _, _ := pathq.Parse(q)
	kept, _, _ := pathq.Parse(q)
	for i := range first {
		_ = append(first[i].Preds, place(7))
		for j := range first[i].Preds {
			first[i].Preds[j] = place(8)
		}
		first[i] = api.Step{}
	}
	again, _, _ := pathq.Parse(q)
	want := []api.Step{within, step(api.Child, "a", place(1), equals("k", "v")), within, step(api.Child, "b", last), step(api.Up, "node()")}
	if !same(kept, want) || !same(again, want) {
		t.Error("R6: changed from outside:", kept, again)
	}
	if s, is := pathq.Print(kept); !is || !pathq.Right(kept) || !same(kept, want) {
		t.Error("R5: changed by Print or Right:", kept, s)
	}
}
