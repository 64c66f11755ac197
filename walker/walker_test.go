package walker_test

import (
	"slices"
	"strconv"
	"strings"
	"testing"

	"incunable/api"
	"incunable/grove"
	"incunable/pathq"
	"incunable/walker"
)

func el(level int, name string, attrs ...string) api.Item {
	i := api.Item{Level: level, Kind: api.Element, Name: name}
	for k := 0; k < len(attrs); k += 2 {
		i.Attrs = append(i.Attrs, api.Attr{Name: attrs[k], Value: attrs[k+1]})
	}
	return i
}

func tx(level int, text string) api.Item {
	return api.Item{Level: level, Kind: api.Text, Text: text}
}

// step is one of an axis, with a test: "*", "text()", "node()", or a name.
func step(axis int, test string, preds ...api.Pred) api.Step {
	s := api.Step{Axis: axis, Preds: preds}
	switch test {
	case "*":
		s.Test = api.Any
	case "text()":
		s.Test = api.Texts
	case "node()":
		s.Test = api.AnyNode
	default:
		s.Test, s.Name = api.Named, test
	}
	return s
}

func place(n int) api.Pred           { return api.Pred{Kind: api.Place, N: n} }
func has(name string) api.Pred       { return api.Pred{Kind: api.Has, Name: name} }
func equals(name, v string) api.Pred { return api.Pred{Kind: api.Equals, Name: name, Value: v} }
func says(v string) api.Pred         { return api.Pred{Kind: api.Says, Value: v} }

var last = api.Pred{Kind: api.Last}

func loaded(t *testing.T, l ...api.Item) *grove.Tree {
	t.Helper()
	g := grove.New()
	if _, e := g.Load(l); e != api.OK {
		t.Fatalf("P6.1: Load is %d", e)
	}
	return g
}

// mixed is a tree whose ids do not rise in the order of the document:
//
//	2 a: 11 x; 5 b (k=1): 12 x, 6 c: (7 b, 3 y); 8 b (k=2); 4 d (k=): 13 "", 10 e; 9 z
func mixed(t *testing.T) *grove.Tree {
	t.Helper()
	g, e := grove.Restore([]api.Item{
		el(0, "a"), tx(1, "x"), el(1, "b", "k", "1"), tx(2, "x"), el(2, "c"), el(3, "b"), tx(3, "y"), el(1, "b", "j", "1", "k", "2"), el(1, "d", "k", ""), tx(2, ""), el(2, "e"), tx(1, "z"),
	}, []int{2, 11, 5, 12, 6, 7, 3, 8, 4, 13, 10, 9}, 20)
	if e != api.OK {
		t.Fatalf("P6.5: Restore is %d", e)
	}
	return g
}

// found holds what steps find against what is wanted.
func found(t *testing.T, promise string, tree walker.Tree, l []api.Step, want ...int) {
	t.Helper()
	q, _ := pathq.Print(l)
	if got, is := walker.Eval(tree, l); !is || !slices.Equal(got, want) {
		t.Errorf("%s: Eval of %s is %v, %v, not %v", promise, q, got, is, want)
	}
}

// finds holds what a query finds against what is wanted.
func finds(t *testing.T, promise string, tree walker.Tree, q string, want ...int) {
	t.Helper()
	if got, at, e := walker.Find(tree, q); e != api.OK || at != 0 || !slices.Equal(got, want) {
		t.Errorf("%s: Find(%s) is %v, %d at %d, not %v", promise, q, got, e, at, want)
	}
}

// path tells steps that lead to one node alone, by its places from the root on; of 0 to the document.
func path(t *testing.T, g *grove.Tree, id int) []api.Step {
	t.Helper()
	if id == 0 {
		return []api.Step{step(api.Self, "node()")}
	}
	n, _ := g.Get(id)
	if n.Parent == 0 {
		return []api.Step{step(api.Child, "node()")}
	}
	for k := 0; ; k++ {
		kid, is := g.Kid(n.Parent, k)
		if !is {
			t.Fatalf("P6.5: %d is no kid of its parent's", id)
		}
		if kid == id {
			return append(path(t, g, n.Parent), step(api.Child, "node()", place(k+1)))
		}
	}
}

// row tells all that an axis leads to from a node, in its order: each one as the one at its number. The document is not told, but has the root as a kid; it is 0 here.
func row(t *testing.T, g *grove.Tree, id, axis int) []int {
	t.Helper()
	var l []int
	for n := 1; ; n++ {
		q := append(path(t, g, id), step(axis, "node()", place(n)))
		got, is := walker.Eval(g, q)
		if !is || len(got) > 1 {
			t.Fatalf("P8.1: axis %d from %d has %v, %v at the number %d", axis, id, got, is, n)
		}
		if len(got) == 0 {
			kids, _ := walker.Eval(g, append(q, step(api.Child, "node()")))
			if len(kids) == 0 {
				return l
			}
			if !slices.Equal(kids, []int{g.Root()}) {
				t.Fatalf("P8.1: what is told of axis %d from %d at the number %d is nothing, but has the kids %v", axis, id, n, kids)
			}
			got = []int{0}
		}
		l = append(l, got...)
	}
}

// P8.1: each axis, in its order, from the document, the root, elements in the middle, and texts.
func TestAxes(t *testing.T) {
	g := mixed(t)
	all := []int{2, 11, 5, 12, 6, 7, 3, 8, 4, 13, 10, 9}
	for _, r := range []struct {
		id   int
		rows map[int][]int
	}{
		{0, map[int][]int{api.Child: {2}, api.Descendant: all, api.Within: append([]int{0}, all...)}},
		{2, map[int][]int{api.Child: {11, 5, 8, 4, 9}, api.Descendant: all[1:], api.Within: all, api.Up: {0}, api.Ancestor: {0}}},
		{11, map[int][]int{api.Within: {11}, api.Up: {2}, api.Ancestor: {2, 0}, api.Following: {5, 8, 4, 9}}},
		{5, map[int][]int{api.Child: {12, 6}, api.Descendant: {12, 6, 7, 3}, api.Within: {5, 12, 6, 7, 3}, api.Up: {2}, api.Ancestor: {2, 0}, api.Following: {8, 4, 9}, api.Preceding: {11}}},
		{6, map[int][]int{api.Child: {7, 3}, api.Descendant: {7, 3}, api.Within: {6, 7, 3}, api.Up: {5}, api.Ancestor: {5, 2, 0}, api.Preceding: {12}}},
		{7, map[int][]int{api.Within: {7}, api.Up: {6}, api.Ancestor: {6, 5, 2, 0}, api.Following: {3}}},
		{3, map[int][]int{api.Within: {3}, api.Up: {6}, api.Ancestor: {6, 5, 2, 0}, api.Preceding: {7}}},
		{8, map[int][]int{api.Within: {8}, api.Up: {2}, api.Ancestor: {2, 0}, api.Following: {4, 9}, api.Preceding: {5, 11}}},
		{4, map[int][]int{api.Child: {13, 10}, api.Descendant: {13, 10}, api.Within: {4, 13, 10}, api.Up: {2}, api.Ancestor: {2, 0}, api.Following: {9}, api.Preceding: {8, 5, 11}}},
		{13, map[int][]int{api.Within: {13}, api.Up: {4}, api.Ancestor: {4, 2, 0}, api.Following: {10}}},
		{9, map[int][]int{api.Within: {9}, api.Up: {2}, api.Ancestor: {2, 0}, api.Preceding: {4, 8, 5, 11}}},
	} {
		for axis := api.Child; axis <= api.Self; axis++ {
			want := r.rows[axis]
			if axis == api.Self {
				want = []int{r.id}
			}
			if got := row(t, g, r.id, axis); !slices.Equal(got, want) {
				t.Errorf("P8.1: axis %d from %d is %v, not %v", axis, r.id, got, want)
			}
			// The document is told by nobody, so that the last one is nothing where it is the last one.
			var end []int
			if len(want) > 0 && want[len(want)-1] != 0 {
				end = want[len(want)-1:]
			}
			found(t, "P8.1", g, append(path(t, g, r.id), step(axis, "node()", last)), end...)
			// All of a row, but in the order of the document.
			told := slices.DeleteFunc(slices.Clone(want), func(id int) bool { return id == 0 })
			slices.SortFunc(told, func(a, b int) int { return slices.Index(all, a) - slices.Index(all, b) })
			found(t, "P8.1", g, append(path(t, g, r.id), step(axis, "node()")), told...)
		}
	}
}

// P8.1: the document, its kid, and what is not beside or above it.
func TestDocument(t *testing.T) {
	g := mixed(t)
	finds(t, "P8.1", g, "/.")
	finds(t, "P8.1", g, "/..")
	finds(t, "P8.1", g, "/../a")
	finds(t, "P8.1", g, "/../node()")
	finds(t, "P8.1", g, "/./a", 2)
	finds(t, "P8.1", g, "/node()", 2)
	finds(t, "P8.1", g, "/node()[1]", 2)
	finds(t, "P8.1", g, "/node()[last()]", 2)
	finds(t, "P8.1", g, "/node()[2]")
	finds(t, "P8.1", g, "/a/..")
	finds(t, "P8.1", g, "/a/../a", 2)
	finds(t, "P8.1", g, "/a/../..")
	finds(t, "P8.1", g, "/a/../../a")
	finds(t, "P8.1", g, "/a/../../..//node()")
	finds(t, "P8.1", g, "/ancestor::node()")
	finds(t, "P8.1", g, "/ancestor::node()/a")
	finds(t, "P8.1", g, "/following-sibling::node()/..")
	finds(t, "P8.1", g, "/preceding-sibling::node()/..")
	finds(t, "P8.1", g, "/following-sibling::node()/descendant-or-self::node()")
	finds(t, "P8.1", g, "/preceding-sibling::node()/descendant-or-self::node()")
	finds(t, "P8.1", g, "/a/following-sibling::node()")
	finds(t, "P8.1", g, "/a/preceding-sibling::node()")
	finds(t, "P8.1", g, "/a/ancestor::node()/node()", 2)
	finds(t, "P8.1", g, "/a/ancestor::node()/ancestor::node()/node()")
	// It has no kind, no name, no attribute and no text.
	for _, test := range []string{"*", "text()", "a", "document"} {
		finds(t, "P8.2", g, "/self::"+test)
		finds(t, "P8.2", g, "/self::"+test+"/node()")
		finds(t, "P8.2", g, "/a/parent::"+test+"/node()")
		finds(t, "P8.2", g, "/a/ancestor::"+test+"/node()")
	}
	finds(t, "P8.2", g, "/self::node()/node()", 2)
	finds(t, "P8.2", g, "/a/parent::node()/node()", 2)
	finds(t, "P8.2", g, "/descendant-or-self::node()[1]/node()", 2)
	finds(t, "P8.2", g, "/descendant-or-self::*[1]", 2)
	for _, p := range []string{"@k", "@k=\"\"", "@k=\"1\"", "text()=\"\"", "text()=\"x\"", "2"} {
		finds(t, "P8.2", g, "/self::node()["+p+"]/node()")
	}
	finds(t, "P8.2", g, "/self::node()[1][last()]/node()", 2)
}

// P8.1, P8.3: without a node the document stands alone.
func TestNoNode(t *testing.T) {
	for _, tree := range []walker.Tree{grove.New(), &plain{}} {
		for axis := api.Child; axis <= api.Self; axis++ {
			for _, test := range []string{"a", "*", "text()", "node()"} {
				for _, preds := range [][]api.Pred{nil, {place(1)}, {last}, {has("k")}, {equals("k", "")}, {says("")}} {
					found(t, "P8.3", tree, []api.Step{step(axis, test, preds...)})
					found(t, "P8.3", tree, []api.Step{step(api.Within, "node()"), step(axis, test, preds...)})
				}
			}
		}
		finds(t, "P8.3", tree, "//node()")
		finds(t, "P8.3", tree, "/.//.")
		if l, at, e := walker.Find(tree, "/a["); e != api.ErrQueryForm || at != 3 || len(l) != 0 {
			t.Errorf("P8.3: without a node Find(/a[) is %v, %d at %d", l, e, at)
		}
	}
	g := grove.New()
	g.Load([]api.Item{el(0, "a")})
	finds(t, "P8.3", g, "/.")
	finds(t, "P8.3", g, "//node()", 1)
	finds(t, "P8.3", g, "/a/node()")
}

// P8.2: what tests keep.
func TestTests(t *testing.T) {
	g := mixed(t)
	finds(t, "P8.2", g, "//b", 5, 7, 8)
	finds(t, "P8.2", g, "//a", 2)
	finds(t, "P8.2", g, "//x")
	finds(t, "P8.2", g, "//z")
	finds(t, "P8.2", g, "//B")
	finds(t, "P8.2", g, "//bb")
	finds(t, "P8.2", g, "//*", 2, 5, 6, 7, 8, 4, 10)
	finds(t, "P8.2", g, "//text()", 11, 12, 3, 13, 9)
	finds(t, "P8.2", g, "//node()", 2, 11, 5, 12, 6, 7, 3, 8, 4, 13, 10, 9)
	finds(t, "P8.2", g, "/a/b", 5, 8)
	finds(t, "P8.2", g, "/a/*", 5, 8, 4)
	finds(t, "P8.2", g, "/a/text()", 11, 9)
	finds(t, "P8.2", g, "/a/node()", 11, 5, 8, 4, 9)
	finds(t, "P8.2", g, "/a/text()/node()")
	finds(t, "P8.2", g, "/a/text()/self::text()", 11, 9)
	finds(t, "P8.2", g, "/a/text()/self::*")
	finds(t, "P8.2", g, "/a/b/self::b", 5, 8)
	finds(t, "P8.2", g, "/a/b/self::a")
	// Names are told apart by what is in them, even where they are words of the query.
	h := loaded(t, el(0, "text"), el(1, "node"), el(1, "child"), el(1, "last"), tx(1, "text"))
	finds(t, "P8.2", h, "/text", 1)
	finds(t, "P8.2", h, "/text/node", 2)
	finds(t, "P8.2", h, "/text/node()", 2, 3, 4, 5)
	finds(t, "P8.2", h, "/text/text()", 5)
	finds(t, "P8.2", h, "/text/text")
	finds(t, "P8.2", h, "/text/child::child", 3)
}

// P8.2: numbers, and the last one, of one node's row each.
func TestPlaces(t *testing.T) {
	g := mixed(t)
	finds(t, "P8.2", g, "/a/b[1]", 5)
	finds(t, "P8.2", g, "/a/b[2]", 8)
	finds(t, "P8.2", g, "/a/b[3]")
	finds(t, "P8.2", g, "/a/b[9999]")
	finds(t, "P8.2", g, "/a/b[last()]", 8)
	finds(t, "P8.2", g, "/a/x[last()]")
	finds(t, "P8.2", g, "/a/*[1]", 5)
	finds(t, "P8.2", g, "/a/*[3]", 4)
	finds(t, "P8.2", g, "/a/node()[1]", 11)
	finds(t, "P8.2", g, "/a/text()[2]", 9)
	// Each node has a row of its own, so that more than one first one may be found.
	finds(t, "P8.2", g, "//b[1]", 5, 7)
	finds(t, "P8.2", g, "//b[2]", 8)
	finds(t, "P8.2", g, "//b[last()]", 7, 8)
	finds(t, "P8.2", g, "/descendant::b[1]", 5)
	finds(t, "P8.2", g, "/descendant::b[2]", 7)
	finds(t, "P8.2", g, "/descendant::b[3]", 8)
	finds(t, "P8.2", g, "/descendant::b[4]")
	finds(t, "P8.2", g, "/descendant::node()[12]", 9)
	finds(t, "P8.2", g, "/descendant::node()[13]")
	finds(t, "P8.2", g, "//node()[1]", 2, 11, 12, 7, 13)
	finds(t, "P8.2", g, "//node()[last()]", 2, 6, 3, 10, 9)
	// Backward the nearest one is the first one, and the farthest the last one.
	finds(t, "P8.2", g, "/a/d/preceding-sibling::*[1]", 8)
	finds(t, "P8.2", g, "/a/d/preceding-sibling::node()[3]", 11)
	finds(t, "P8.2", g, "/a/d/preceding-sibling::node()[last()]", 11)
	finds(t, "P8.2", g, "/a/d/preceding-sibling::*[last()]", 5)
	finds(t, "P8.2", g, "/a/b/preceding-sibling::node()[1]", 11, 5)
	finds(t, "P8.2", g, "/a/b/following-sibling::node()[1]", 8, 4)
	finds(t, "P8.2", g, "/a/b/following-sibling::node()[last()]", 9)
	finds(t, "P8.2", g, "//c/b/ancestor::*[1]", 6)
	finds(t, "P8.2", g, "//c/b/ancestor::*[2]", 5)
	finds(t, "P8.2", g, "//c/b/ancestor::*[last()]", 2)
	finds(t, "P8.2", g, "//c/b/ancestor::node()[last()]")
	finds(t, "P8.2", g, "//c/b/ancestor::node()[4]/a", 2)
	finds(t, "P8.2", g, "//c/b/ancestor::node()[5]/a")
	finds(t, "P8.2", g, "//c/b/..", 6)
	finds(t, "P8.2", g, "/a/b/parent::*[1]", 2)
	finds(t, "P8.2", g, "/a/b/self::b[1]", 5, 8)
	finds(t, "P8.2", g, "/a/b/self::b[last()]", 5, 8)
	finds(t, "P8.2", g, "/a/b/self::b[2]")
}

// P8.2: attributes: there or not, and with which value; texts and the document have none.
func TestAttributes(t *testing.T) {
	g := mixed(t)
	finds(t, "P8.2", g, "//b[@k]", 5, 8)
	finds(t, "P8.2", g, "//*[@k]", 5, 8, 4)
	finds(t, "P8.2", g, "//node()[@k]", 5, 8, 4)
	finds(t, "P8.2", g, "//*[@j]", 8)
	finds(t, "P8.2", g, "//*[@K]")
	finds(t, "P8.2", g, "//*[@kk]")
	finds(t, "P8.2", g, "//*[@b]")
	finds(t, "P8.2", g, "//text()[@k]")
	finds(t, "P8.2", g, "//text()[@k=\"\"]")
	finds(t, "P8.2", g, "//b[@k=\"1\"]", 5)
	finds(t, "P8.2", g, "//b[@k=\"2\"]", 8)
	finds(t, "P8.2", g, "//b[@k=\"3\"]")
	finds(t, "P8.2", g, "//b[@k=\"\"]")
	finds(t, "P8.2", g, "//*[@k=\"\"]", 4)
	finds(t, "P8.2", g, "//*[@k=\"11\"]")
	finds(t, "P8.2", g, "//*[@k=\"&#49;\"]", 5)
	finds(t, "P8.2", g, "//*[@j=\"1\"]", 8)
	finds(t, "P8.2", g, "//*[@j=\"2\"]")
	h := loaded(t, el(0, "a", "k", "\"<&>'\u00e9\n"), el(1, "a", "k", "&quot;"))
	finds(t, "P8.2", h, "//a[@k=\"&quot;&lt;&amp;&gt;'\u00e9&#10;\"]", 1)
	finds(t, "P8.2", h, "//a[@k=\"&amp;quot;\"]", 2)
	// The last one of as many attributes as there may be, too.
	var many []string
	for k := range api.MaxAttrs {
		many = append(many, "k"+string(rune('a'+k)), strconv.Itoa(k))
	}
	m := loaded(t, el(0, "a", many...))
	for k := range api.MaxAttrs {
		finds(t, "P8.2", m, "/a[@"+many[2*k]+"]", 1)
		finds(t, "P8.2", m, "/a[@"+many[2*k]+"=\""+strconv.Itoa(k)+"\"]", 1)
		finds(t, "P8.2", m, "/a[@"+many[2*k]+"=\""+strconv.Itoa(k+1)+"\"]")
	}
	finds(t, "P8.2", m, "/a[@k]")
}

// P8.2: texts among the kids; not one deeper, not an element's missing Text, not a node's own.
func TestSays(t *testing.T) {
	g := mixed(t)
	finds(t, "P8.2", g, "//*[text()=\"x\"]", 2, 5)
	finds(t, "P8.2", g, "//node()[text()=\"x\"]", 2, 5)
	finds(t, "P8.2", g, "//*[text()=\"y\"]", 6)
	finds(t, "P8.2", g, "//b[text()=\"y\"]")
	finds(t, "P8.2", g, "//*[text()=\"z\"]", 2)
	finds(t, "P8.2", g, "//*[text()=\"\"]", 4)
	finds(t, "P8.2", g, "//*[text()=\"xz\"]")
	finds(t, "P8.2", g, "//*[text()=\"X\"]")
	finds(t, "P8.2", g, "//*[text()=\"b\"]")
	finds(t, "P8.2", g, "//text()[text()=\"x\"]")
	finds(t, "P8.2", g, "//text()[text()=\"\"]")
	h := loaded(t, el(0, "a"), el(1, "b"), tx(2, "1<2"), el(2, "c"), tx(2, "2\"3"), el(1, "b"), el(2, "c"), tx(3, "1<2"))
	finds(t, "P8.2", h, "//*[text()=\"1&lt;2\"]", 2, 7)
	finds(t, "P8.2", h, "//b[text()=\"1&lt;2\"]", 2)
	finds(t, "P8.2", h, "//b[text()=\"2&quot;3\"]", 2)
	finds(t, "P8.2", h, "//*[text()=\"\"]")
	finds(t, "P8.2", h, "//b[text()=\"1&lt;2\"][text()=\"2&quot;3\"]", 2)
}

// P8.2: predicates one behind the other count in what is left.
func TestPredicates(t *testing.T) {
	g := mixed(t)
	finds(t, "P8.2", g, "/a/*[@k][2]", 8)
	finds(t, "P8.2", g, "/a/*[2][@k]", 8)
	finds(t, "P8.2", g, "/a/*[@j][1]", 8)
	finds(t, "P8.2", g, "/a/*[1][@j]")
	finds(t, "P8.2", g, "/a/*[@k=\"2\"][1]", 8)
	finds(t, "P8.2", g, "/a/*[@k=\"2\"][2]")
	finds(t, "P8.2", g, "/a/node()[@k][last()]", 4)
	finds(t, "P8.2", g, "/a/node()[last()][@k]")
	finds(t, "P8.2", g, "/a/b[last()][1]", 8)
	finds(t, "P8.2", g, "/a/b[1][last()]", 5)
	finds(t, "P8.2", g, "/a/b[2][1]", 8)
	finds(t, "P8.2", g, "/a/b[1][1][1][1][1]", 5)
	finds(t, "P8.2", g, "/a/b[2][2]")
	finds(t, "P8.2", g, "/a/b[1][2]")
	finds(t, "P8.2", g, "/a/d/preceding-sibling::*[@k][2]", 5)
	finds(t, "P8.2", g, "/a/d/preceding-sibling::node()[@k][last()]", 5)
	finds(t, "P8.2", g, "/a/*[text()=\"x\"][1][@k=\"1\"][last()][@k]", 5)
	finds(t, "P8.2", g, "//*[@k][text()=\"x\"]", 5)
	finds(t, "P8.2", g, "//*[text()=\"x\"][@k]", 5)
	finds(t, "P8.2", g, "//*[text()=\"x\"][1]", 2, 5)
	finds(t, "P8.2", g, "/descendant::*[text()=\"x\"][1]", 2)
	finds(t, "P8.2", g, "/descendant::*[text()=\"x\"][last()]", 5)
}

// P8.3: nodes that are led to from several are told once, in the order of the document.
func TestOnceInOrder(t *testing.T) {
	g := mixed(t)
	finds(t, "P8.3", g, "//*/..", 2, 5, 6, 4)
	finds(t, "P8.3", g, "//node()/ancestor::*", 2, 5, 6, 4)
	finds(t, "P8.3", g, "//node()/ancestor::node()/ancestor::node()", 2, 5)
	finds(t, "P8.3", g, "//.//.//.//node()", 2, 11, 5, 12, 6, 7, 3, 8, 4, 13, 10, 9)
	finds(t, "P8.3", g, "//b/preceding-sibling::node()", 11, 5)
	finds(t, "P8.3", g, "//b/following-sibling::node()", 3, 8, 4, 9)
	finds(t, "P8.3", g, "//node()/preceding-sibling::node()[1]", 11, 5, 12, 7, 8, 4, 13)
	finds(t, "P8.3", g, "//text()/preceding-sibling::*", 5, 7, 8, 4)
	finds(t, "P8.3", g, "/a/d/preceding-sibling::node()", 11, 5, 8)
	finds(t, "P8.3", g, "//c/b/ancestor::*", 2, 5, 6)
	finds(t, "P8.3", g, "//.", 2, 11, 5, 12, 6, 7, 3, 8, 4, 13, 10, 9)
	finds(t, "P8.3", g, "/a/b/..", 2)
	finds(t, "P8.3", g, "/a/b/../b", 5, 8)
	finds(t, "P8.3", g, "/a/b/node()/../..", 2)
}

// P8.3: what the chapter's examples say.
func TestExamples(t *testing.T) {
	g := loaded(t, el(0, "a"), el(1, "b", "k", "1"), tx(1, "x"), el(1, "b"))
	finds(t, "P8.3", g, "//b", 2, 4)
	finds(t, "P8.3", g, "/a/b[2]", 4)
	finds(t, "P8.3", g, "//b[@k]", 2)
	finds(t, "P8.3", g, "/a/..")
	finds(t, "P8.3", g, "//text()/preceding-sibling::*", 2)
}

// P8.3: behind each edit the tree is asked as it is now.
func TestEdits(t *testing.T) {
	g := loaded(t, el(0, "a"), tx(1, "x"))
	finds(t, "P8.3", g, "//node()", 1, 2)
	g.Insert(1, 0, []api.Item{el(0, "b"), tx(1, "y"), el(0, "c")})
	finds(t, "P8.3", g, "//node()", 1, 3, 4, 5, 2)
	finds(t, "P8.3", g, "//text()", 4, 2)
	finds(t, "P8.3", g, "/a/text()/preceding-sibling::*[1]", 5)
	g.Move(5, 3, 0)
	finds(t, "P8.3", g, "//node()", 1, 3, 5, 4, 2)
	finds(t, "P8.3", g, "//c/following-sibling::node()", 4)
	finds(t, "P8.3", g, "/a/c")
	g.SetAttr(5, "k", "v")
	g.SetText(4, "z")
	finds(t, "P8.3", g, "//*[@k=\"v\"]", 5)
	finds(t, "P8.3", g, "//*[text()=\"z\"]", 3)
	finds(t, "P8.3", g, "//*[text()=\"y\"]")
	g.DelAttr(5, "k")
	finds(t, "P8.3", g, "//*[@k]")
	g.Delete(3)
	finds(t, "P8.3", g, "//node()", 1, 2)
	g.Load([]api.Item{el(0, "r"), el(1, "s")})
	finds(t, "P8.3", g, "//node()", 6, 7)
	finds(t, "P8.3", g, "/a")
}

// P8.3: steps that are no query find nothing, and it is told that they are none.
func TestNoQuery(t *testing.T) {
	g := mixed(t)
	good := step(api.Child, "a")
	for _, l := range [][]api.Step{
		nil, {}, slices.Repeat([]api.Step{step(api.Within, "node()")}, 21), {good, {}}, {{}, good},
		{{Axis: 0, Test: api.Any}}, {{Axis: 9, Test: api.Any}}, {{Axis: -1, Test: api.Any}}, {{Axis: api.Child}}, {{Axis: api.Child, Test: 5}}, {{Axis: api.Child, Test: -1}},
		{step(api.Child, "")}, {step(api.Child, "1a")}, {{Axis: api.Child, Test: api.Any, Name: "a"}}, {step(api.Child, strings.Repeat("a", 61))},
		{step(api.Child, "a", place(0))}, {step(api.Child, "a", place(-1))}, {step(api.Child, "a", place(10000))}, {step(api.Child, "a", has(""))}, {step(api.Child, "a", equals("", "1"))},
		{step(api.Child, "a", says("\xff"))}, {step(api.Child, "a", equals("k", "\x00"))}, {step(api.Child, "a", api.Pred{})}, {step(api.Child, "a", api.Pred{Kind: 6})}, {step(api.Child, "a", api.Pred{Kind: api.Last, N: 1})},
		{step(api.Child, "a", slices.Repeat([]api.Pred{place(1)}, 6)...)}, {good, step(api.Child, "b"), step(api.Child, "x", has("1"))},
	} {
		if got, is := walker.Eval(g, l); is || len(got) != 0 {
			t.Errorf("P8.3: Eval of %v, which is no query, is %v, %v", l, got, is)
		}
	}
	// As many as there may be of all are a query.
	found(t, "P8.3", g, slices.Repeat([]api.Step{step(api.Self, "node()")}, 20))
	found(t, "P8.3", g, append(slices.Repeat([]api.Step{step(api.Self, "node()")}, 19), good), 2)
	found(t, "P8.3", g, []api.Step{step(api.Child, "a", slices.Repeat([]api.Pred{place(1)}, 5)...)}, 2)
	found(t, "P8.3", g, []api.Step{step(api.Child, "a", place(9999))})
}

// P8.3: of Find each error, at its place; beside it nothing.
func TestErrors(t *testing.T) {
	g := mixed(t)
	for _, r := range []struct {
		q  string
		at int
		e  api.Errno
	}{
		{"", 0, api.ErrQueryForm}, {"a", 0, api.ErrQueryForm}, {"/", 1, api.ErrQueryForm}, {"/a[", 3, api.ErrQueryForm}, {"//b[1", 5, api.ErrQueryForm}, {"/a/", 3, api.ErrQueryForm}, {"//b[0]", 4, api.ErrQueryForm},
		{"/a[@k=\"1]", 9, api.ErrQueryForm}, {"/a[@k=\"&x;\"]", 7, api.ErrEscapeForm}, {"/a[text()=\"x&#0;\"]", 12, api.ErrEscapeChar}, {"/a/b\xff", 4, api.ErrQueryForm},
		{strings.Repeat("/a", 21), 40, api.ErrQueryForm}, {"/" + strings.Repeat("a", 61), 1, api.ErrQueryForm}, {strings.Repeat("/a", 101), 0, api.ErrQueryLong}, {"/a" + strings.Repeat("[", 199), 0, api.ErrQueryLong},
	} {
		if got, at, e := walker.Find(g, r.q); e != r.e || at != r.at || len(got) != 0 {
			t.Errorf("P8.3: Find(%q) is %v, %d at %d, not %d at %d", r.q, got, e, at, r.e, r.at)
		}
	}
	finds(t, "P8.3", g, strings.Repeat("/.", 19)+"/a", 2)
	finds(t, "P8.3", g, "/a[@k=\""+strings.Repeat("v", 191)+"\"]")
}

// P8.3: what is the same query is found the same: by its text, by its steps, and by the text that is printed of them.
func TestFindIsEval(t *testing.T) {
	g := mixed(t)
	for _, q := range []string{"/a", "//b", "//b[1]", "/a//text()", "//c/..", "//*[@k][2]/preceding-sibling::node()[1]", "//b[text()=\"x\"]/c/b/ancestor::*[last()]", "/a/.//.."} {
		l, at, e := pathq.Parse(q)
		if e != api.OK {
			t.Fatalf("P7.1: Parse(%s) is %d at %d", q, e, at)
		}
		ids, is := walker.Eval(g, l)
		printed, _ := pathq.Print(l)
		if !is {
			t.Errorf("P8.3: Eval of %s is no query", q)
		}
		finds(t, "P8.3", g, q, ids...)
		finds(t, "P8.3", g, printed, ids...)
	}
}

// P8.4: all that is found is in the tree.
func TestInTree(t *testing.T) {
	for _, g := range edited(t) {
		for _, s := range variants([]string{"a", "*", "text()", "node()"}, nil, []api.Pred{place(2)}, []api.Pred{last}) {
			for _, m := range variants([]string{"*", "node()"}, nil, []api.Pred{last}) {
				ids, _ := walker.Eval(g, []api.Step{step(api.Within, "node()"), s, m})
				for k, id := range ids {
					if _, is := g.Get(id); !is || slices.Contains(ids[:k], id) {
						t.Fatalf("P8.4: %v and %v find %v, with %d in %v", s, m, ids, id, g.Order())
					}
				}
			}
		}
	}
}

// union tells the ids of two lists, in the order of the document, each once.
func union(g *grove.Tree, a, b []int) []int {
	return slices.DeleteFunc(g.Order(), func(id int) bool { return !slices.Contains(a, id) && !slices.Contains(b, id) })
}

// P8.4: a step without predicates finds of two sets together what it finds of each: of a node with all below it, of it alone and of those; of all that is told, of each one.
func TestTogether(t *testing.T) {
	for _, g := range edited(t) {
		for _, s := range variants([]string{"a", "*", "text()", "node()"}, nil) {
			for _, id := range append(g.Order(), 0) {
				from := func(axis int) []int {
					ids, _ := walker.Eval(g, append(path(t, g, id), step(axis, "node()"), s))
					return ids
				}
				if one, two, both := from(api.Self), from(api.Descendant), from(api.Within); !slices.Equal(both, union(g, one, two)) {
					t.Fatalf("P8.4: %v finds %v of %d, %v of those below it, and %v of all", s, one, id, two, both)
				}
			}
			var each []int
			for _, id := range append(g.Order(), 0) {
				ids, _ := walker.Eval(g, append(path(t, g, id), s))
				each = union(g, each, ids)
			}
			found(t, "P8.4", g, []api.Step{step(api.Within, "node()"), s}, each...)
		}
	}
}

// P8.4: what descendant finds is what child finds, again and again; and so are the axes that lead up and back.
func TestAgain(t *testing.T) {
	// Six steps at most are ahead, so that fourteen more are a query; the trees are not as deep.
	const again = 13
	for _, g := range edited(t) {
		for _, test := range []string{"a", "b", "*", "text()", "node()"} {
			for _, id := range append(g.Order(), 0) {
				ahead := path(t, g, id)
				if len(ahead) > 6 {
					continue
				}
				for _, r := range []struct{ whole, one int }{{api.Descendant, api.Child}, {api.Ancestor, api.Up}} {
					var each []int
					for k := range again {
						l := append(slices.Clone(ahead), slices.Repeat([]api.Step{step(r.one, "node()")}, k)...)
						ids, _ := walker.Eval(g, append(l, step(r.one, test)))
						each = union(g, each, ids)
					}
					found(t, "P8.4", g, append(ahead, step(r.whole, test)), each...)
				}
			}
		}
	}
}

// R5, R6: what is asked stays as it was, and what is told is the caller's own.
func TestOwn(t *testing.T) {
	g := mixed(t)
	p := rowOf(g)
	l := []api.Step{step(api.Within, "node()"), step(api.Child, "b", has("k"), place(1))}
	was := []api.Step{step(api.Within, "node()"), step(api.Child, "b", has("k"), place(1))}
	one, _ := walker.Eval(g, l)
	two, _ := walker.Eval(g, l)
	if !slices.Equal(one, []int{5}) || !slices.Equal(two, one) {
		t.Fatalf("R7: twice Eval is %v, %v", one, two)
	}
	all, _, _ := walker.Find(g, "//node()")
	for k := range all {
		all[k] = -1
	}
	one[0] = 8
	if three, _ := walker.Eval(g, l); !slices.Equal(three, two) {
		t.Errorf("R6: behind a writing into what was told Eval is %v", three)
	}
	same := func(a, b api.Step) bool {
		return a.Axis == b.Axis && a.Test == b.Test && a.Name == b.Name && slices.Equal(a.Preds, b.Preds)
	}
	if !slices.EqualFunc(l, was, same) {
		t.Errorf("R5: Eval changed its steps to %v", l)
	}
	if now := rowOf(g); !slices.Equal(now.ids, p.ids) || g.Next() != 20 {
		t.Errorf("R5: Eval changed its tree to %v", now.ids)
	}
}

// P8.1: as deep a tree as there may be.
func TestDeep(t *testing.T) {
	var l []api.Item
	for level := range api.MaxDepth {
		l = append(l, el(level, "a"))
	}
	g := loaded(t, l...)
	finds(t, "P8.1", g, "//a", upTo(1, api.MaxDepth)...)
	finds(t, "P8.1", g, "/descendant::a[40]/ancestor::a", upTo(1, api.MaxDepth-1)...)
	finds(t, "P8.1", g, "/descendant::a[40]/ancestor::a[39]", 1)
	finds(t, "P8.1", g, "/descendant::a[40]/ancestor::node()[40]/a", 1)
	finds(t, "P8.1", g, "/descendant::a[40]/ancestor::node()[41]/a")
	finds(t, "P8.1", g, "/descendant::a[40]/descendant-or-self::a", 40)
	finds(t, "P8.1", g, strings.Repeat("/a", 20), 20)
	finds(t, "P8.1", g, strings.Repeat("//a", 10), upTo(10, api.MaxDepth)...)
}

// R1: as wide a tree as there may be, with as many steps: what each one leads to from all is told in time.
func TestWide(t *testing.T) {
	l := []api.Item{el(0, "a")}
	for range api.MaxNodes - 1 {
		l = append(l, el(1, "b", "k", "v"))
	}
	g := loaded(t, l...)
	finds(t, "P8.1", g, "//b", upTo(2, api.MaxNodes)...)
	finds(t, "P8.2", g, "/a/b[999]", api.MaxNodes)
	finds(t, "P8.2", g, "/a/b[1000]")
	for _, axis := range []int{api.Following, api.Preceding} {
		steps := append([]api.Step{step(api.Child, "a"), step(api.Child, "b")}, slices.Repeat([]api.Step{step(axis, "b", equals("k", "v"))}, 18)...)
		if axis == api.Following {
			found(t, "P8.3", g, steps, upTo(20, api.MaxNodes)...)
		} else {
			found(t, "P8.3", g, steps, upTo(2, api.MaxNodes-18)...)
		}
	}
}
