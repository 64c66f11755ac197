package grove_test

import (
	"fmt"
	"math"
	"slices"
	"strconv"
	"strings"
	"testing"

	"incunable/api"
	"incunable/grove"
	"incunable/parse"
)

func attrs(l ...string) []api.Attr {
	var all []api.Attr
	for i := 0; i < len(l); i += 2 {
		all = append(all, api.Attr{Name: l[i], Value: l[i+1]})
	}
	return all
}

func el(level int, name string, l ...string) api.Item {
	return api.Item{Level: level, Kind: api.Element, Name: name, Attrs: attrs(l...)}
}

func tx(level int, s string) api.Item { return api.Item{Level: level, Kind: api.Text, Text: s} }

func row(l ...api.Item) []api.Item { return l }

// chain tells elements, one in the other, at Levels 0 to many - 1.
func chain(many int) []api.Item {
	var l []api.Item
	for level := range many {
		l = append(l, el(level, "d"))
	}
	return l
}

// flat tells that many texts side by side.
func flat(level, many int) []api.Item { return slices.Repeat(row(tx(level, "m")), many) }

// full tells an element with as many attributes as may be, and more.
func full(more int) api.Item {
	i := el(0, "f")
	for k := range api.MaxAttrs + more {
		i.Attrs = append(i.Attrs, api.Attr{Name: "n" + strconv.Itoa(100+k), Value: "v"})
	}
	return i
}

// upTo tells the numbers from, and on, below to.
func upTo(from, to int) []int {
	var l []int
	for k := from; k < to; k++ {
		l = append(l, k)
	}
	return l
}

func brief(l []api.Item) string { return fmt.Sprintf("%.300q", fmt.Sprint(l)) }

// deep tells a copy of a row that shares nothing with it.
func deep(l []api.Item) []api.Item {
	l = slices.Clone(l)
	for k := range l {
		l[k].Attrs = slices.Clone(l[k].Attrs)
	}
	return l
}

func equal(a, b []api.Item) bool {
	return slices.EqualFunc(a, b, func(a, b api.Item) bool {
		return a.Level == b.Level && a.Kind == b.Kind && a.Name == b.Name && a.Text == b.Text && slices.Equal(a.Attrs, b.Attrs)
	})
}

func sameNode(a, b api.Node) bool {
	return a.Id == b.Id && a.Parent == b.Parent && a.Kind == b.Kind && a.Kids == b.Kids && a.Name == b.Name && a.Text == b.Text && slices.Equal(a.Attrs, b.Attrs)
}

// tells asks for Order and Items of the root.
func tells(t *testing.T, tree *grove.Tree, ids []int, l ...api.Item) {
	t.Helper()
	if o := tree.Order(); !slices.Equal(o, ids) {
		t.Fatalf("P6.5: Order is %v, not %v", o, ids)
	}
	if got := tree.Items(tree.Root()); !equal(got, l) {
		t.Fatalf("P6.5: Items is %s, not %s", brief(got), brief(l))
	}
}

func is(t *testing.T, what string, got, want api.Errno) {
	t.Helper()
	if got != want {
		t.Errorf("%s is %d, not %d", what, got, want)
	}
}

// sample is a tree with nodes at three levels: a1 (k=1), in it x2, b3 (in it y4, c5), d6 (in it e7), z8.
func sample() []api.Item {
	return row(el(0, "a", "k", "1"), tx(1, "x"), el(1, "b"), tx(2, "y"), el(2, "c"), el(1, "d"), el(2, "e"), tx(1, "z"))
}

// wrong are rows with each of the errors that parse.Check has of an item's parts.
func wrong() []struct {
	item api.Item
	e    api.Errno
} {
	both := attrs("b", "1", "b", "2")
	return []struct {
		item api.Item
		e    api.Errno
	}{
		{api.Item{}, api.ErrTreeKind},
		{api.Item{Kind: 3, Name: "a"}, api.ErrTreeKind},
		{api.Item{Kind: -1}, api.ErrTreeKind},
		{api.Item{Kind: api.Element, Name: "a", Text: "x"}, api.ErrTreeKind},
		{api.Item{Kind: api.Element, Name: "1", Text: "x"}, api.ErrTreeKind},
		{api.Item{Kind: api.Text, Name: "a", Text: "x"}, api.ErrTreeKind},
		{api.Item{Kind: api.Text, Text: "\x00", Attrs: attrs("a", "1")}, api.ErrTreeKind},
		{el(0, ""), api.ErrTreeName},
		{el(0, "-a"), api.ErrTreeName},
		{el(0, strings.Repeat("n", api.MaxName+1)), api.ErrTreeName},
		{el(0, "a", "", "1"), api.ErrTreeName},
		{el(0, "a", "1", "\x00"), api.ErrTreeName},
		{el(0, "a", "c", "1", "b", "2"), api.ErrTreeName},
		{api.Item{Kind: api.Element, Name: "a", Attrs: both}, api.ErrTreeName},
		{full(1), api.ErrTreeLong},
		{tx(0, "\xff"), api.ErrTreeChar},
		{tx(0, "\x00"+strings.Repeat("x", api.MaxText)), api.ErrTreeChar},
		{tx(0, strings.Repeat("x", api.MaxText+1)), api.ErrTreeLong},
		{el(0, "a", "b", "\ufffe"), api.ErrTreeChar},
		{el(0, "a", "b", strings.Repeat("x", api.MaxText+1)), api.ErrTreeLong},
		{el(0, "a", "b", strings.Repeat("x", api.MaxText+1), "c", "\x00"), api.ErrTreeLong},
	}
}

// P6.1: no node.
func TestNew(t *testing.T) {
	p := fresh(t)
	p.check("New")
	p.checkEach()
	for _, id := range []int{math.MinInt, -1, 0, 1, math.MaxInt} {
		is(t, "P6.3: Delete", p.remove(id), api.ErrTreeNone)
		is(t, "P6.3: Move", p.move(id, id, 0), api.ErrTreeNone)
		is(t, "P6.4: SetAttr", p.setAttr(id, "a", "b"), api.ErrTreeNone)
		is(t, "P6.4: DelAttr", p.delAttr(id, "a"), api.ErrTreeNone)
		is(t, "P6.4: SetText", p.setText(id, "a"), api.ErrTreeNone)
		_, e := p.insert(id, 0, el(0, "a"))
		is(t, "P6.2: Insert", e, api.ErrTreeNone)
	}
	c := p.copy()
	c.load(row(el(0, "a")))
	p.check("a Clone's Load")
	if a, b := grove.New(), grove.New(); a == b {
		t.Error("P6.1: two trees are one")
	} else if a.Load(row(el(0, "a"))); b.Next() != 1 || b.Len() != 0 {
		t.Error("P6.1: two trees have to do with each other")
	}
}

// P6.1, P6.6: documents, one after the other.
func TestLoad(t *testing.T) {
	p := fresh(t)
	if id := p.load(row(el(0, "a"))); id != 1 {
		t.Error("P6.1:", id)
	}
	tells(t, p.tree, []int{1}, el(0, "a"))
	if id := p.load(sample()); id != 2 || p.tree.Next() != 10 || p.tree.Root() != 2 {
		t.Error("P6.1:", id)
	}
	tells(t, p.tree, []int{2, 3, 4, 5, 6, 7, 8, 9}, sample()...)
	p.checkEach()
	if _, is := p.tree.Get(1); is {
		t.Error("P6.1: a node is left")
	}
	if id := p.load(row(el(0, "n"), tx(1, ""), tx(1, ""))); id != 10 {
		t.Error("P6.1:", id)
	}
	p.checkEach()
	p.load(p.tree.Items(10))
	tells(t, p.tree, []int{13, 14, 15}, el(0, "n"), tx(1, ""), tx(1, ""))
}

// P6.1: what is no document; the tree stays.
func TestLoadWrong(t *testing.T) {
	p := loaded(t, sample()...)
	refused := func(want api.Errno, l ...api.Item) {
		t.Helper()
		id, e := p.tree.Load(l)
		if id != 0 || e != want {
			t.Errorf("P6.1: Load(%s) is %d, %d, not %d", brief(l), id, e, want)
		}
		p.check("Load(" + brief(l) + ")")
	}
	refused(api.ErrParseRoot)
	refused(api.ErrTreePlace, tx(0, "x"))
	refused(api.ErrTreePlace, el(1, "a"))
	refused(api.ErrTreePlace, el(-1, "a"))
	refused(api.ErrTreePlace, el(0, "a"), el(0, "b"))
	refused(api.ErrTreePlace, el(0, "a"), el(2, "b"))
	refused(api.ErrTreePlace, el(0, "a"), tx(1, "b"), tx(2, "c"))
	refused(api.ErrParseDeep, chain(api.MaxDepth+1)...)
	refused(api.ErrParseMany, append(row(el(0, "a")), flat(1, api.MaxNodes)...)...)
	for _, w := range wrong() {
		if w.item.Level = 1; w.item.Kind == api.Element {
			root := w.item
			root.Level = 0
			refused(w.e, root)
		}
		refused(w.e, el(0, "a"), w.item)
	}
}

// P6.1, P6.2: the next id goes up to 2^31 - 1, and no further.
func TestNextLast(t *testing.T) {
	ab := row(el(0, "a"), el(1, "b"))
	p := restored(t, nil, nil, lastNext)
	p.load(ab)
	p.load(ab[:1])
	p = restored(t, nil, nil, lastNext-1)
	if id, e := p.tree.Load(ab); id != 0 || e != api.ErrTreeMany {
		t.Error("P6.1:", id, e)
	}
	if id, e := p.tree.Load(row(tx(0, "x"), tx(0, "y"))); id != 0 || e != api.ErrTreePlace {
		t.Error("P6.1: parse.Check's is told first:", id, e)
	}
	p.check("Load")
	if id := p.load(ab[:1]); id != lastNext-1 || p.tree.Next() != lastNext {
		t.Error("P6.1:", id, p.tree.Next())
	}
	p.load(ab[:1])
	_, e := p.insert(lastNext-1, 0, tx(0, "x"))
	is(t, "P6.2: Insert", e, api.ErrTreeMany)

	p = restored(t, ab, []int{lastNext - 4, 1}, lastNext-3)
	_, e = p.insert(1, 0, flat(0, 4)...)
	is(t, "P6.2: Insert", e, api.ErrTreeMany)
	id, e := p.insert(1, 0, flat(0, 3)...)
	is(t, "P6.2: Insert", e, api.OK)
	if id != lastNext-3 || p.tree.Next() != lastNext {
		t.Error("P6.2:", id, p.tree.Next())
	}
	is(t, "P6.3: Delete", p.remove(lastNext-1), api.OK)
	_, e = p.insert(1, 0, tx(0, "x"))
	is(t, "P6.2: Insert", e, api.ErrTreeMany)
	p.check("Insert")
}

// P6.2: forests of one and of several, at the first, a middle and the last place.
func TestInsert(t *testing.T) {
	forests := [][]api.Item{
		row(el(0, "n")), row(tx(0, "n")), row(tx(0, "")), row(full(0)),
		row(tx(0, "m"), tx(0, "n"), tx(0, "o")),
		row(el(0, "n"), tx(1, "y")),
		row(tx(0, "m"), el(0, "n", "k", "v"), el(1, "o"), tx(2, "p"), tx(0, "q"), el(0, "r")),
		row(el(0, "n"), el(1, "o"), el(2, "p"), el(0, "q"), el(1, "r"), el(1, "s")),
		row(el(0, "n"), el(0, "o"), el(0, "p")),
	}
	for _, l := range forests {
		for parent := -1; parent <= 9; parent++ {
			for at := -1; at <= 6; at++ {
				p := loaded(t, sample()...)
				id, e := p.insert(parent, at, l...)
				p.checkEach()
				if e == api.OK && (id != 9 || p.tree.Next() != 9+len(l)) {
					t.Errorf("P6.2: Insert(%d, %d, %s) is %d", parent, at, brief(l), id)
				}
				if k, _ := p.tree.Kid(parent, at); e == api.OK && k != id {
					t.Errorf("P6.2: Insert(%d, %d, %s) has %d at its place", parent, at, brief(l), k)
				}
			}
		}
	}
}

// P6.2: what stands where, said in full.
func TestInsertPlaces(t *testing.T) {
	p := loaded(t, el(0, "a"), tx(1, "x"))
	p.insert(1, 1, el(0, "b"), tx(1, "y"))
	tells(t, p.tree, []int{1, 2, 3, 4}, el(0, "a"), tx(1, "x"), el(1, "b"), tx(2, "y"))
	p.insert(1, 0, tx(0, "m"), el(0, "n"))
	tells(t, p.tree, []int{1, 5, 6, 2, 3, 4}, el(0, "a"), tx(1, "m"), el(1, "n"), tx(1, "x"), el(1, "b"), tx(2, "y"))
	p.insert(1, 3, el(0, "o"))
	tells(t, p.tree, []int{1, 5, 6, 2, 7, 3, 4}, el(0, "a"), tx(1, "m"), el(1, "n"), tx(1, "x"), el(1, "o"), el(1, "b"), tx(2, "y"))
	p.insert(6, 0, tx(0, "p"), tx(0, "q"))
	tells(t, p.tree, []int{1, 5, 6, 8, 9, 2, 7, 3, 4}, el(0, "a"), tx(1, "m"), el(1, "n"), tx(2, "p"), tx(2, "q"), tx(1, "x"), el(1, "o"), el(1, "b"), tx(2, "y"))
	p.checkEach()
}

// P6.2: each error of a forest.
func TestInsertWrong(t *testing.T) {
	p := loaded(t, sample()...)
	refused := func(want api.Errno, l ...api.Item) {
		t.Helper()
		_, e := p.insert(1, 4, l...)
		is(t, "P6.2: Insert("+brief(l)+")", e, want)
	}
	refused(api.ErrParseRoot)
	for _, level := range []int{math.MinInt, -1, 1, 2, math.MaxInt} {
		refused(api.ErrTreePlace, tx(level, "x"))
		refused(api.ErrTreePlace, el(level, "x"))
		refused(api.ErrTreePlace, api.Item{Level: level})
	}
	for _, level := range []int{math.MinInt, -1, 2, math.MaxInt} {
		refused(api.ErrTreePlace, el(0, "n"), el(level, "o"))
		refused(api.ErrTreePlace, el(0, "n"), el(level, ""))
	}
	refused(api.ErrTreePlace, tx(0, "x"), tx(1, "y"))
	refused(api.ErrTreePlace, tx(0, "x"), el(1, "y"))
	refused(api.ErrTreePlace, el(0, "n"), el(1, "o"), el(3, "p"))
	refused(api.ErrTreePlace, el(0, "n"), tx(1, "o"), tx(2, "p"))
	for _, w := range wrong() {
		refused(w.e, w.item)
		refused(w.e, tx(0, "x"), w.item)
		refused(w.e, w.item, tx(7, "x"))
		refused(w.e, append(chain(api.MaxDepth), w.item)...)
		refused(w.e, append(flat(0, api.MaxNodes), w.item)...)
		refused(api.ErrTreePlace, tx(7, "x"), w.item)
		w.item.Level = 1
		refused(w.e, el(0, "n"), w.item)
		refused(api.ErrTreePlace, tx(0, "x"), w.item)
	}
}

// P6.2: where several errors are due, the one that is named first.
func TestInsertFirst(t *testing.T) {
	forests := [][]api.Item{
		nil, row(tx(1, "x")), row(el(0, "n"), el(2, "")), row(el(0, "1")), row(el(0, "n", "1", "2")), row(full(1)), row(tx(0, "\x00")),
		chain(api.MaxDepth - 2), chain(api.MaxDepth - 1), chain(api.MaxDepth), chain(api.MaxDepth + 1),
		flat(0, api.MaxNodes-8), flat(0, api.MaxNodes-7), flat(0, api.MaxNodes+1),
		append(chain(api.MaxDepth), flat(0, api.MaxNodes)...), append(flat(0, api.MaxNodes), tx(1, "x")), append(flat(0, api.MaxNodes), el(0, "1")),
		row(el(0, "n")),
	}
	for _, next := range []int{9, 10, lastNext - 1, lastNext} {
		for _, l := range forests {
			for _, parent := range []int{-1, 0, 1, 2, 7, 9} {
				for _, at := range []int{math.MinInt, -1, 0, 4, 5, math.MaxInt} {
					p := restored(t, sample(), upTo(1, 9), next)
					p.insert(parent, at, l...)
				}
			}
		}
	}
}

// P6.1, P6.2, P6.3: MaxNodes nodes, and one more.
func TestMaxNodes(t *testing.T) {
	p := loaded(t, append(row(el(0, "a")), flat(1, api.MaxNodes-1)...)...)
	_, e := p.insert(1, 0, tx(0, "x"))
	is(t, "P6.2: Insert", e, api.ErrTreeMany)
	is(t, "P6.3: Delete", p.remove(500), api.OK)
	is(t, "P6.3: Move", p.move(1000, 1, 0), api.OK)
	_, e = p.insert(1, 998, tx(0, "x"), tx(0, "y"))
	is(t, "P6.2: Insert", e, api.ErrTreeMany)
	id, e := p.insert(1, 998, tx(0, "x"))
	is(t, "P6.2: Insert", e, api.OK)
	if id != 1001 || p.tree.Len() != api.MaxNodes {
		t.Error("P6.2:", id, p.tree.Len())
	}
	p = loaded(t, el(0, "a"))
	_, e = p.insert(1, 0, flat(0, api.MaxNodes)...)
	is(t, "P6.2: Insert", e, api.ErrTreeMany)
	_, e = p.insert(1, 0, flat(0, api.MaxNodes-1)...)
	is(t, "P6.2: Insert", e, api.OK)
	if id := p.load(sample()); id != 1001 {
		t.Error("P6.1:", id)
	}
}

// P6.2, P6.3: MaxDepth levels, and one more.
func TestMaxDepth(t *testing.T) {
	for many := 1; many <= api.MaxDepth; many++ {
		p := loaded(t, append(chain(many), tx(1, "x"))...)
		for more := 1; more <= api.MaxDepth; more++ {
			q := p.copy()
			want := api.OK
			if many+more > api.MaxDepth {
				want = api.ErrTreeDeep
			}
			_, e := q.insert(many, 0, chain(more)...)
			is(t, fmt.Sprintf("P6.2: Insert of %d levels below %d", more, many), e, want)
			if e == api.OK {
				continue
			}
			_, e = q.insert(1, 0, chain(min(more, api.MaxDepth-1))...)
			is(t, "P6.2: Insert", e, api.OK)
			if more < api.MaxDepth {
				is(t, fmt.Sprintf("P6.3: Move of %d levels below %d", more, many), q.move(q.tree.Next()-more, many, 0), api.ErrTreeDeep)
			}
		}
	}
	p := loaded(t, append(chain(api.MaxDepth-1), el(1, "b"), tx(2, "x"), tx(1, "y"))...)
	b, x, y := 40, 41, 42
	is(t, "P6.3: Move", p.move(b, 39, 0), api.ErrTreeDeep)
	is(t, "P6.3: Move", p.move(b, 38, 0), api.OK)
	is(t, "P6.3: Move", p.move(y, 39, 0), api.OK)
	is(t, "P6.3: Move", p.move(x, 39, 1), api.OK)
	is(t, "P6.3: Move", p.move(b, 39, 2), api.OK)
	is(t, "P6.3: Move", p.move(x, b, 0), api.ErrTreeDeep)
	is(t, "P6.3: Move", p.move(x, b, 1), api.ErrTreePlace)
	_, e := p.insert(b, 0, tx(0, "z"))
	is(t, "P6.2: Insert", e, api.ErrTreeDeep)
	p.checkEach()
}

// P6.3: a node is gone, with all below it, and gives its id to nobody.
func TestDelete(t *testing.T) {
	for id := -1; id <= 9; id++ {
		p := loaded(t, sample()...)
		e := p.remove(id)
		p.checkEach()
		if e == api.OK {
			is(t, "P6.3: Delete again", p.remove(id), api.ErrTreeNone)
		}
		if n, _ := p.insert(1, 0, tx(0, "n")); n != 9 {
			t.Error("P6.3: the id of one that is gone:", n)
		}
	}
	p := loaded(t, sample()...)
	is(t, "P6.3: Delete", p.remove(1), api.ErrTreeRoot)
	is(t, "P6.3: Delete", p.remove(9), api.ErrTreeNone)
	is(t, "P6.3: Delete", p.remove(3), api.OK)
	tells(t, p.tree, []int{1, 2, 6, 7, 8}, el(0, "a", "k", "1"), tx(1, "x"), el(1, "d"), el(2, "e"), tx(1, "z"))
	for _, id := range []int{3, 4, 5} {
		if n, is := p.tree.Get(id); is || !sameNode(n, api.Node{}) {
			t.Error("P6.3: left:", n)
		}
		_, e := p.insert(id, 0, tx(0, "x"))
		is(t, "P6.2: Insert", e, api.ErrTreeNone)
		is(t, "P6.3: Move", p.move(id, 1, 0), api.ErrTreeNone)
		is(t, "P6.3: Move", p.move(2, id, 0), api.ErrTreeNone)
	}
	for _, id := range []int{2, 8, 7, 6} {
		is(t, "P6.3: Delete", p.remove(id), api.OK)
	}
	tells(t, p.tree, []int{1}, el(0, "a", "k", "1"))
	is(t, "P6.3: Delete", p.remove(1), api.ErrTreeRoot)
}

// P6.3: a node ahead, behind, up and down, said in full.
func TestMove(t *testing.T) {
	order := func(want []int, moves ...[3]int) {
		t.Helper()
		p := loaded(t, sample()...)
		for _, m := range moves {
			is(t, fmt.Sprint("P6.3: Move", m), p.move(m[0], m[1], m[2]), api.OK)
		}
		if o := p.tree.Order(); !slices.Equal(o, want) {
			t.Errorf("P6.3: behind %v: %v, not %v", moves, o, want)
		}
		p.checkEach()
	}
	order([]int{1, 3, 4, 5, 2, 6, 7, 8}, [3]int{3, 1, 0})
	order([]int{1, 2, 3, 4, 5, 6, 7, 8}, [3]int{3, 1, 1})
	order([]int{1, 2, 6, 7, 3, 4, 5, 8}, [3]int{3, 1, 2})
	order([]int{1, 2, 6, 7, 8, 3, 4, 5}, [3]int{3, 1, 3})
	order([]int{1, 3, 4, 5, 6, 7, 8, 2}, [3]int{2, 1, 3})
	order([]int{1, 8, 2, 3, 4, 5, 6, 7}, [3]int{8, 1, 0})
	order([]int{1, 2, 4, 3, 5, 6, 7, 8}, [3]int{4, 1, 1})
	order([]int{1, 2, 3, 4, 6, 7, 8, 5}, [3]int{5, 1, 4})
	order([]int{1, 2, 6, 3, 4, 5, 7, 8}, [3]int{3, 6, 0})
	order([]int{1, 2, 6, 7, 3, 4, 5, 8}, [3]int{3, 6, 1})
	order([]int{1, 2, 6, 7, 3, 4, 5, 8}, [3]int{3, 7, 0})
	order([]int{1, 2, 3, 4, 6, 7, 5, 8}, [3]int{6, 3, 1})
	order([]int{1, 2, 3, 4, 5, 6, 7, 8}, [3]int{6, 5, 0})
	order([]int{1, 6, 7, 3, 4, 5, 2, 8}, [3]int{3, 7, 0}, [3]int{2, 1, 1})
}

// P6.3: every node to every place of every node, one of them or two.
func TestMoveAll(t *testing.T) {
	all := func(p *pair, then func(*pair)) {
		for id := -1; id <= 9; id++ {
			for parent := 0; parent <= 9; parent++ {
				for at := -1; at <= 5; at++ {
					q := p.copy()
					q.move(id, parent, at)
					then(q)
				}
			}
		}
	}
	all(loaded(t, sample()...), func(q *pair) { q.checkEach() })
	all(loaded(t, el(0, "a"), el(1, "b"), tx(2, "x"), el(1, "c")), func(q *pair) { all(q, func(*pair) {}) })
}

// P6.3: each error, and the one that is named first where several are due.
func TestMoveWrong(t *testing.T) {
	p := loaded(t, append(sample(), chain(api.MaxDepth)[1:]...)...)
	deepest := 8 + api.MaxDepth - 1
	for _, m := range []struct {
		id, parent, at int
		e              api.Errno
	}{
		{99, 1, 0, api.ErrTreeNone}, {2, 99, 0, api.ErrTreeNone}, {1, 99, 0, api.ErrTreeNone}, {99, 2, 9, api.ErrTreeNone}, {0, 0, 0, api.ErrTreeNone}, {-1, 1, 0, api.ErrTreeNone},
		{1, 3, 0, api.ErrTreeRoot}, {1, 1, 0, api.ErrTreeRoot}, {1, 2, 9, api.ErrTreeRoot},
		{3, 2, 0, api.ErrTreeKind}, {2, 2, 0, api.ErrTreeKind}, {3, 4, 9, api.ErrTreeKind}, {3, 4, 0, api.ErrTreeKind},
		{3, 3, 0, api.ErrTreeLoop}, {3, 5, 0, api.ErrTreeLoop}, {3, 5, -1, api.ErrTreeLoop}, {9, deepest, 0, api.ErrTreeLoop},
		{3, 1, -1, api.ErrTreePlace}, {3, 1, 5, api.ErrTreePlace}, {3, 6, 2, api.ErrTreePlace}, {2, deepest, 1, api.ErrTreePlace}, {2, deepest, math.MinInt, api.ErrTreePlace}, {2, 1, math.MaxInt, api.ErrTreePlace},
		{2, deepest, 0, api.ErrTreeDeep}, {3, deepest - 1, 0, api.ErrTreeDeep},
		{3, 1, 4, api.OK}, {2, deepest - 1, 1, api.OK}, {3, deepest - 2, 1, api.OK},
	} {
		is(t, fmt.Sprintf("P6.3: Move(%d, %d, %d)", m.id, m.parent, m.at), p.move(m.id, m.parent, m.at), m.e)
	}
}

// P6.4: attributes anew, again, and deleted.
func TestAttrs(t *testing.T) {
	p := loaded(t, el(0, "a"), el(1, "b", "m", "1"), tx(1, "x"))
	has := func(id int, l ...string) {
		t.Helper()
		if n, _ := p.tree.Get(id); !slices.Equal(n.Attrs, attrs(l...)) {
			t.Errorf("P6.4: attributes %v, not %v", n.Attrs, l)
		}
		p.checkEach()
	}
	is(t, "P6.4: SetAttr", p.setAttr(2, "z", "2"), api.OK)
	has(2, "m", "1", "z", "2")
	is(t, "P6.4: SetAttr", p.setAttr(2, "a", "3"), api.OK)
	has(2, "a", "3", "m", "1", "z", "2")
	is(t, "P6.4: SetAttr", p.setAttr(2, "n", ""), api.OK)
	has(2, "a", "3", "m", "1", "n", "", "z", "2")
	is(t, "P6.4: SetAttr", p.setAttr(2, "m", "4"), api.OK)
	has(2, "a", "3", "m", "4", "n", "", "z", "2")
	is(t, "P6.4: SetAttr", p.setAttr(2, "\u00e9", "<\">"), api.OK)
	is(t, "P6.4: SetAttr", p.setAttr(2, "Z", "5"), api.OK)
	has(2, "Z", "5", "a", "3", "m", "4", "n", "", "z", "2", "\u00e9", "<\">")
	for _, name := range []string{"m", "Z", "\u00e9"} {
		is(t, "P6.4: DelAttr", p.delAttr(2, name), api.OK)
		is(t, "P6.4: DelAttr", p.delAttr(2, name), api.ErrTreeName)
	}
	has(2, "a", "3", "n", "", "z", "2")
	has(1)
	is(t, "P6.4: SetAttr", p.setAttr(1, "m", "m"), api.OK)
	has(1, "m", "m")
	is(t, "P6.4: DelAttr", p.delAttr(1, "m"), api.OK)
	has(1)
}

// P6.4: MaxAttrs attributes, MaxText bytes, MaxName bytes, and one more of each.
func TestMaxAttrs(t *testing.T) {
	p := loaded(t, full(0), tx(1, "x"))
	most, long := strings.Repeat("x", api.MaxText), strings.Repeat("n", api.MaxName)
	for _, name := range []string{"a", "n1005", "z"} {
		is(t, "P6.4: SetAttr", p.setAttr(1, name, "v"), api.ErrTreeLong)
	}
	is(t, "P6.4: SetAttr", p.setAttr(1, "n100", most), api.OK)
	is(t, "P6.4: SetAttr", p.setAttr(1, "n119", most), api.OK)
	is(t, "P6.4: SetAttr", p.setAttr(1, "n119", most+"x"), api.ErrTreeLong)
	is(t, "P6.4: DelAttr", p.delAttr(1, "n110"), api.OK)
	is(t, "P6.4: SetAttr", p.setAttr(1, long+"n", "v"), api.ErrTreeName)
	is(t, "P6.4: SetAttr", p.setAttr(1, long, "v"), api.OK)
	is(t, "P6.4: SetAttr", p.setAttr(1, "n110", "v"), api.ErrTreeLong)
	is(t, "P6.4: DelAttr", p.delAttr(1, long), api.OK)
	is(t, "P6.4: SetAttr", p.setAttr(1, "n110", ""), api.OK)
	is(t, "P6.4: SetText", p.setText(2, most), api.OK)
	is(t, "P6.4: SetText", p.setText(2, most+"x"), api.ErrTreeLong)
	is(t, "P6.4: SetText", p.setText(2, most[2:]+"\u00e9"), api.OK)
	is(t, "P6.4: SetText", p.setText(2, most[1:]+"\u00e9"), api.ErrTreeLong)
	_, e := p.insert(1, 0, tx(0, most), full(0))
	is(t, "P6.2: Insert", e, api.OK)
	p.checkEach()
}

// P6.4: each error, and the one that is named first where several are due.
func TestSetWrong(t *testing.T) {
	long := strings.Repeat("x", api.MaxText+1)
	f := full(0)
	f.Level = 1
	p := loaded(t, el(0, "a", "k", "1"), f, tx(1, "x"))
	for _, id := range []int{math.MinInt, -1, 0, 1, 2, 3, 4, math.MaxInt} {
		for _, name := range []string{"", "k", "n100", "new", "1", "a b", "\xff", long} {
			for _, value := range []string{"", "v", "\x00", "\xff", "\x00" + long, long, long[1:]} {
				q := p.copy()
				q.setAttr(id, name, value)
				q = p.copy()
				q.setText(id, value)
			}
			q := p.copy()
			q.delAttr(id, name)
		}
	}
	is(t, "P6.4: SetAttr", p.setAttr(9, "", "\x00"), api.ErrTreeNone)
	is(t, "P6.4: SetAttr", p.setAttr(3, "", "\x00"), api.ErrTreeKind)
	is(t, "P6.4: SetAttr", p.setAttr(1, "", "\x00"), api.ErrTreeName)
	is(t, "P6.4: SetAttr", p.setAttr(2, "z", "\x00"+long), api.ErrTreeChar)
	is(t, "P6.4: SetAttr", p.setAttr(2, "n100", long), api.ErrTreeLong)
	is(t, "P6.4: DelAttr", p.delAttr(9, ""), api.ErrTreeNone)
	is(t, "P6.4: DelAttr", p.delAttr(3, ""), api.ErrTreeKind)
	is(t, "P6.4: DelAttr", p.delAttr(1, ""), api.ErrTreeName)
	is(t, "P6.4: SetText", p.setText(9, "\x00"), api.ErrTreeNone)
	is(t, "P6.4: SetText", p.setText(1, "\x00"), api.ErrTreeKind)
	is(t, "P6.4: SetText", p.setText(3, "\x00"+long), api.ErrTreeChar)
	is(t, "P6.4: SetText", p.setText(3, long), api.ErrTreeLong)
	is(t, "P6.4: SetText", p.setText(3, ""), api.OK)
	is(t, "P6.4: SetText", p.setText(3, "\u20ac<&"), api.OK)
	p.checkEach()
}

// P6.5: what is told of nodes, said in full.
func TestGet(t *testing.T) {
	p := loaded(t, sample()...)
	for _, want := range []api.Node{
		{Id: 1, Kind: api.Element, Kids: 4, Name: "a", Attrs: attrs("k", "1")},
		{Id: 2, Parent: 1, Kind: api.Text, Text: "x"},
		{Id: 3, Parent: 1, Kind: api.Element, Kids: 2, Name: "b"},
		{Id: 5, Parent: 3, Kind: api.Element, Name: "c"},
		{Id: 8, Parent: 1, Kind: api.Text, Text: "z"},
	} {
		if got, is := p.tree.Get(want.Id); !is || !sameNode(got, want) {
			t.Errorf("P6.5: Get(%d) is %v, not %v", want.Id, got, want)
		}
	}
	for k, want := range []int{2, 3, 6, 8} {
		if kid, is := p.tree.Kid(1, k); kid != want || !is {
			t.Errorf("P6.5: Kid(1, %d) is %d", k, kid)
		}
	}
	if l := p.tree.Items(3); !equal(l, row(el(0, "b"), tx(1, "y"), el(1, "c"))) {
		t.Error("P6.5: Items(3):", l)
	}
	if l := p.tree.Items(4); !equal(l, row(tx(0, "y"))) {
		t.Error("P6.5: Items(4):", l)
	}
	if l := p.tree.Items(9); len(l) != 0 {
		t.Error("P6.5: Items(9):", l)
	}
	p.checkEach()
}

// P6.5: Restore's trees.
func TestRestore(t *testing.T) {
	p := restored(t, nil, nil, 5)
	p.checkEach()
	if id := p.load(row(el(0, "a"))); id != 5 {
		t.Error("P6.5:", id)
	}
	p = restored(t, row(el(0, "a")), []int{1}, 2)
	p.checkEach()
	p = restored(t, sample(), []int{8, 7, 6, 5, 4, 3, 2, 1}, 9)
	p.checkEach()
	p = restored(t, sample(), []int{50, 3, 40, 7, 30, 1, 20, 2}, 51)
	p.checkEach()
	if p.tree.Root() != 50 {
		t.Error("P6.5:", p.tree.Root())
	}
	id, e := p.insert(40, 1, el(0, "n"), tx(1, "o"), tx(0, "p"))
	is(t, "P6.2: Insert", e, api.OK)
	if want := []int{50, 3, 40, 7, 51, 52, 53, 30, 1, 20, 2}; id != 51 || !slices.Equal(p.tree.Order(), want) {
		t.Error("P6.5:", id, p.tree.Order())
	}
	is(t, "P6.3: Move", p.move(1, 40, 0), api.OK)
	is(t, "P6.3: Delete", p.remove(40), api.OK)
	is(t, "P6.3: Delete", p.remove(50), api.ErrTreeRoot)
	tells(t, p.tree, []int{50, 3, 2}, el(0, "a", "k", "1"), tx(1, "x"), tx(1, "z"))
	restored(t, row(el(0, "a"), tx(1, "x")), []int{lastNext - 1, 1}, lastNext).checkEach()
}

// P6.5: what Restore refuses, and what it tells first.
func TestRestoreWrong(t *testing.T) {
	ab := row(el(0, "a"), el(1, "b"))
	bad := row(tx(0, "x"), tx(1, "y"))
	for _, x := range []struct {
		l    []api.Item
		ids  []int
		next int
		e    api.Errno
	}{
		{nil, nil, 0, api.ErrArg}, {nil, nil, -1, api.ErrArg}, {nil, nil, math.MinInt, api.ErrArg}, {nil, nil, lastNext + 1, api.ErrArg}, {nil, nil, math.MaxInt, api.ErrArg},
		{nil, []int{1}, 5, api.ErrArg}, {ab, nil, 5, api.ErrArg}, {ab, []int{1}, 5, api.ErrArg}, {ab, []int{1, 2, 3}, 5, api.ErrArg},
		{ab, []int{2, 2}, 5, api.ErrArg}, {ab, []int{0, 1}, 5, api.ErrArg}, {ab, []int{1, -1}, 5, api.ErrArg}, {ab, []int{1, 5}, 5, api.ErrArg}, {ab, []int{6, 1}, 5, api.ErrArg}, {ab, []int{1, 2}, 1, api.ErrArg}, {ab, []int{1, math.MinInt}, 5, api.ErrArg},
		{ab, []int{1, 2}, lastNext + 1, api.ErrArg}, {ab, []int{1, 2}, 0, api.ErrArg},
		{bad, []int{1, 1}, 5, api.ErrArg}, {bad, []int{1, 2}, 0, api.ErrArg}, {bad, []int{1}, 5, api.ErrArg}, {bad, []int{1, 5}, 5, api.ErrArg},
		{bad, []int{1, 2}, 5, api.ErrTreePlace}, {row(el(0, "a"), el(0, "b")), []int{1, 2}, 5, api.ErrTreePlace}, {row(tx(0, "x")), []int{1}, 5, api.ErrTreePlace},
		{chain(api.MaxDepth + 1), upTo(1, api.MaxDepth+2), 50, api.ErrParseDeep}, {append(row(el(0, "a")), flat(1, api.MaxNodes)...), upTo(1, api.MaxNodes+2), 5000, api.ErrParseMany},
		{chain(api.MaxDepth), upTo(1, api.MaxDepth+1), 50, api.OK}, {append(row(el(0, "a")), flat(1, api.MaxNodes-1)...), upTo(1, api.MaxNodes+1), 5000, api.OK},
		{nil, []int{}, 1, api.OK}, {nil, nil, lastNext, api.OK}, {ab, []int{4, 3}, 5, api.OK},
	} {
		tree, e := grove.Restore(x.l, x.ids, x.next)
		if e != x.e || (tree != nil) != (e == api.OK) {
			t.Errorf("P6.5: Restore(%s, %.80v, %d) is %d, not %d", brief(x.l), fmt.Sprint(x.ids), x.next, e, x.e)
		}
	}
	for _, w := range wrong() {
		w.item.Level = 1
		if tree, e := grove.Restore(row(el(0, "a"), w.item), []int{1, 2}, 3); tree != nil || e != w.e {
			t.Errorf("P6.5: Restore(%v) is %d, not %d", w.item, e, w.e)
		}
	}
}

// scrawl writes into all of a row.
func scrawl(l []api.Item) {
	for k := range l {
		for i := range l[k].Attrs {
			l[k].Attrs[i] = api.Attr{Name: "!", Value: "!"}
		}
		for i := range l[k].Attrs[:cap(l[k].Attrs)] {
			l[k].Attrs[:cap(l[k].Attrs)][i] = api.Attr{Name: "!", Value: "!"}
		}
		l[k] = api.Item{Level: -1}
	}
}

// P6.5, R6: what is told, and what was given, is the caller's own.
func TestOwn(t *testing.T) {
	l := append(sample(), el(1, "n", "a", "1", "b", "2"))
	ids, want := upTo(1, 10), deep(l)
	restore := restored(t, l, ids, 10)
	load := loaded(t, l...)
	insert := loaded(t, el(0, "r"))
	insert.insert(1, 0, l...)
	scrawl(l)
	clear(ids)
	for _, p := range []*pair{restore, load, insert} {
		p.check("writing into what was given")
		for id := range p.tree.Next() {
			if n, _ := p.tree.Get(id); len(n.Attrs) > 0 {
				n.Attrs[0].Value = "!"
				_ = append(n.Attrs, api.Attr{Name: "z"})
			}
			scrawl(p.tree.Items(id))
			clear(p.tree.Order())
		}
		p.check("writing into what was told")
		p.checkEach()
	}
	got := load.tree.Items(1)
	got[0].Attrs = append(got[0].Attrs, api.Attr{Name: "z"})
	if !equal(got[1:], want[1:]) {
		t.Error("R6: two lists of one answer share memory")
	}
	n, _ := load.tree.Get(9)
	told := load.tree.Items(1)
	load.setAttr(9, "a", "new")
	load.setAttr(9, "0", "no name")
	load.setAttr(9, "aa", "new")
	load.delAttr(9, "b")
	load.remove(3)
	if !slices.Equal(n.Attrs, attrs("a", "1", "b", "2")) || !equal(told, want) {
		t.Error("R6: a later call changes what was told:", n, told)
	}
}

// P6.5: a Clone goes its own way, and the tree goes its own.
func TestClone(t *testing.T) {
	p := loaded(t, sample()...)
	p.insert(3, 1, el(0, "n", "p", "1", "q", "2"))
	p.remove(2)
	p.move(9, 1, 0)
	c := p.copy()
	c.check("Clone")
	c.checkEach()
	for _, x := range []struct{ do, stay *pair }{{p, c}, {c, p}} {
		x.do.setAttr(9, "p", "new")
		x.stay.checkEach()
		x.do.setAttr(9, "o", "new")
		x.do.delAttr(9, "q")
		x.do.setText(4, "new")
		x.stay.checkEach()
		x.do.insert(1, 1, tx(0, "new"))
		x.do.move(3, 1, 0)
		x.do.remove(7)
		x.do.setText(8, "newer")
		x.stay.check("changes of the other")
		x.stay.checkEach()
		x.do.checkEach()
	}
	d := p.copy()
	p.load(row(el(0, "m")))
	d.checkEach()
	d.load(sample())
	p.checkEach()
	e := restored(t, nil, nil, 7).copy()
	e.checkEach()
	if id := e.load(sample()); id != 7 {
		t.Error("P6.5:", id)
	}
}

// documents tells all documents of that many items, of elements and texts.
func documents(many int) [][]api.Item {
	all := [][]api.Item{row(el(0, "a"))}
	for k := 1; k < many; k++ {
		var more [][]api.Item
		for _, l := range all {
			for level := 1; level <= l[k-1].Level+1; level++ {
				for _, i := range row(tx(level, "x"+strconv.Itoa(k)), el(level, "e"+strconv.Itoa(k), "k", strconv.Itoa(k))) {
					if next := append(deep(l), i); level <= l[k-1].Level || l[k-1].Kind == api.Element {
						more = append(more, next)
					}
				}
			}
		}
		all = more
	}
	return all
}

// P6.1, P6.6: Load and Items, of every short document; and each of its nodes deleted, and each place of each inserted into, and back.
func TestFollows(t *testing.T) {
	forest := row(tx(0, "m"), el(0, "n"), tx(1, "o"), el(0, "p"))
	for many := 1; many <= 5; many++ {
		for _, l := range documents(many) {
			p := loaded(t, l...)
			p.checkEach()
			if k, e := parse.Check(l); e != api.OK {
				t.Fatal("no document:", k, e, l)
			}
			tells(t, p.tree, upTo(1, many+1), l...)
			for id := 1; id <= many; id++ {
				q := p.copy()
				q.remove(id)
				q.checkEach()
				n, _ := p.tree.Get(id)
				for at := range n.Kids + 1 {
					insertDelete(t, p, id, at, forest)
				}
			}
		}
	}
}

// insertDelete asks that what is inserted and deleted leaves all as it was, but Next.
func insertDelete(t *testing.T, p *pair, id, at int, l []api.Item) {
	t.Helper()
	q := p.copy()
	from, e := q.insert(id, at, l...)
	if e != api.OK && e != api.ErrTreeKind || e == api.OK && from != p.tree.Next() {
		t.Fatalf("P6.2: Insert(%d, %d, %s) is %d, %d", id, at, brief(l), from, e)
	}
	for k, i := range l {
		if e == api.OK && i.Level == 0 {
			is(t, "P6.3: Delete", q.remove(from+k), api.OK)
		}
	}
	if e == api.OK && q.tree.Next() != p.tree.Next()+len(l) {
		t.Errorf("P6.6: Next is %d", q.tree.Next())
	}
	q.want = p.want.copy()
	q.want.next = q.tree.Next()
	q.check("Insert and Delete")
	q.checkEach()
}

// P6.6: long rows of calls, right and wrong, with answers as the promises say; by numbers that follow from each other.
func TestManyCalls(t *testing.T) {
	seed := uint32(1)
	pick := func(many int) int {
		seed = seed*1664525 + 1013904223
		return int(seed>>8) % many
	}
	forests := [][]api.Item{
		row(tx(0, "m")), row(el(0, "n")), row(el(0, "n", "k", "v"), tx(1, "o"), el(0, "p")), row(tx(0, "m"), el(0, "n"), el(1, "o"), el(2, "p")),
		chain(9), flat(0, 9), nil, row(tx(1, "x")), row(el(0, "n"), el(1, "")), row(tx(0, "\x00")),
	}
	texts := []string{"", "k", "n", "text", "1", "\xff", strings.Repeat("x", api.MaxText+1), "new"}
	for round := range 30 {
		p := loaded(t, sample()...)
		for range 300 {
			some := func() int { return p.tree.Next() - pick(min(p.tree.Next()+1, 60)+1) }
			if ids := p.tree.Order(); pick(3) > 0 {
				some = func() int { return ids[pick(len(ids))] }
			}
			switch kind := pick(40); {
			case kind == 0 && round%3 == 0:
				p.load(documents(4)[pick(20)])
			case kind < 12:
				p.insert(some(), pick(6)-1, forests[pick(len(forests))]...)
			case kind < 16:
				p.remove(some())
			case kind < 28:
				p.move(some(), some(), pick(5)-1)
			case kind < 32:
				p.setAttr(some(), texts[pick(len(texts))]+texts[pick(2)], texts[pick(len(texts))])
			case kind < 35:
				p.delAttr(some(), texts[pick(len(texts))])
			default:
				p.setText(some(), texts[pick(len(texts))])
			}
		}
		p.checkEach()
		p.copy().checkEach()
		l, ids := p.tree.Items(p.tree.Root()), p.tree.Order()
		restored(t, l, ids, p.tree.Next()).checkEach()
	}
}

// R7: the same calls tell the same.
func TestAgain(t *testing.T) {
	a, b := loaded(t, sample()...), loaded(t, sample()...)
	for _, p := range []*pair{a, b} {
		p.insert(1, 2, chain(5)...)
		p.move(9, 6, 1)
		p.setAttr(10, "k", "v")
		p.remove(3)
	}
	if fmt.Sprint(a.tree.Order(), a.tree.Items(1), a.tree.Next()) != fmt.Sprint(b.tree.Order(), b.tree.Items(1), b.tree.Next()) {
		t.Error("R7")
	}
}
