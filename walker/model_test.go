package walker_test

import (
	"math/rand"
	"slices"
	"testing"

	"incunable/api"
	"incunable/grove"
	"incunable/parse"
	"incunable/pathq"
	"incunable/walker"
)

// The promises said anew: of a tree that is a row of items with their ids, in which the document has the number -1, and all that an axis leads to is known by numbers.

// plain is a tree as a row. It can be asked as a tree of grove's can, as the chapter asks for no other one.
type plain struct {
	items []api.Item
	ids   []int
}

func rowOf(g *grove.Tree) *plain { return &plain{g.Items(g.Root()), g.Order()} }

func (p *plain) Root() int {
	if len(p.ids) == 0 {
		return 0
	}
	return p.ids[0]
}

func (p *plain) Order() []int { return slices.Clone(p.ids) }

func (p *plain) Get(id int) (api.Node, bool) {
	k := slices.Index(p.ids, id)
	if k < 0 {
		return api.Node{}, false
	}
	i, parent := p.items[k], 0
	if in := parse.Parent(p.items, k); in >= 0 {
		parent = p.ids[in]
	}
	return api.Node{Id: id, Parent: parent, Kind: i.Kind, Kids: len(p.kids(k)), Name: i.Name, Text: i.Text, Attrs: slices.Clone(i.Attrs)}, true
}

func (p *plain) Kid(id, k int) (int, bool) {
	of := slices.Index(p.ids, id)
	if of < 0 || k < 0 || k >= len(p.kids(of)) {
		return 0, false
	}
	return p.ids[p.kids(of)[k]], true
}

// level tells how deep a number is; the document is above all.
func (p *plain) level(k int) int {
	if k < 0 {
		return -1
	}
	return p.items[k].Level
}

// in tells whether a number is below another one: nothing as high as that one is between the two.
func (p *plain) in(k, above int) bool {
	for i := above + 1; i <= k; i++ {
		if p.level(i) <= p.level(above) {
			return false
		}
	}
	return k > above
}

// upTo tells the numbers from one to another, both of them; backward if the second one is the smaller one.
func upTo(from, to int) []int {
	if from > to {
		l := upTo(to, from)
		slices.Reverse(l)
		return l
	}
	var l []int
	for k := from; k <= to; k++ {
		l = append(l, k)
	}
	return l
}

// those keeps the numbers of which something is so.
func those(l []int, is func(k int) bool) []int {
	var kept []int
	for _, k := range l {
		if is(k) {
			kept = append(kept, k)
		}
	}
	return kept
}

func (p *plain) all() []int {
	if len(p.ids) == 0 {
		return []int{-1}
	}
	return upTo(-1, len(p.ids)-1)
}

func (p *plain) kids(k int) []int {
	return those(p.all(), func(o int) bool { return p.in(o, k) && p.level(o) == p.level(k)+1 })
}

// siblings tells whether two numbers are kids of one: both are as deep, and nothing between them is higher.
func (p *plain) siblings(k, o int) bool {
	for i := min(k, o); i <= max(k, o); i++ {
		if p.level(i) < p.level(k) {
			return false
		}
	}
	return p.level(k) == p.level(o) && k >= 0 && o >= 0
}

// axis says P8.1 anew.
func (p *plain) axis(k, axis int) []int {
	all := p.all()
	back := slices.Clone(all)
	slices.Reverse(back)
	switch axis {
	case api.Child:
		return p.kids(k)
	case api.Descendant:
		return those(all, func(o int) bool { return p.in(o, k) })
	case api.Within:
		return those(all, func(o int) bool { return o == k || p.in(o, k) })
	case api.Up:
		return those(all, func(o int) bool { return p.in(k, o) && p.level(o)+1 == p.level(k) })
	case api.Ancestor:
		return those(back, func(o int) bool { return p.in(k, o) })
	case api.Following:
		return those(all, func(o int) bool { return o > k && p.siblings(o, k) })
	case api.Preceding:
		return those(back, func(o int) bool { return o < k && p.siblings(o, k) })
	}
	return []int{k}
}

// item tells what stands at a number; the document is nothing.
func (p *plain) item(k int) api.Item {
	if k < 0 {
		return api.Item{}
	}
	return p.items[k]
}

// passes says of P8.2 what a test keeps.
func (p *plain) passes(k int, s api.Step) bool {
	i := p.item(k)
	return map[int]bool{
		api.Named: i.Kind == api.Element && i.Name == s.Name, api.Any: i.Kind == api.Element, api.Texts: i.Kind == api.Text, api.AnyNode: true,
	}[s.Test]
}

// pred says of P8.2 what a predicate keeps of what is left.
func (p *plain) pred(left []int, pred api.Pred) []int {
	switch pred.Kind {
	case api.Place:
		if pred.N > len(left) {
			return nil
		}
		return left[pred.N-1 : pred.N]
	case api.Last:
		return left[max(0, len(left)-1):]
	}
	return those(left, func(k int) bool {
		switch pred.Kind {
		case api.Has:
			return slices.ContainsFunc(p.item(k).Attrs, func(a api.Attr) bool { return a.Name == pred.Name })
		case api.Equals:
			return slices.Contains(p.item(k).Attrs, api.Attr{Name: pred.Name, Value: pred.Value})
		}
		return slices.ContainsFunc(p.kids(k), func(o int) bool { return p.items[o].Kind == api.Text && p.items[o].Text == pred.Value })
	})
}

// row tells what a step leads to from one number, in the order of its axis.
func (p *plain) row(k int, s api.Step) []int {
	left := those(p.axis(k, s.Axis), func(o int) bool { return p.passes(o, s) })
	for _, pred := range s.Preds {
		left = p.pred(left, pred)
	}
	return left
}

// eval says P8.3 anew, of steps that are a query.
func (p *plain) eval(l []api.Step) []int {
	found := []int{-1}
	for _, s := range l {
		var next []int
		for _, k := range found {
			next = append(next, p.row(k, s)...)
		}
		slices.Sort(next)
		found = slices.Compact(next)
	}
	var ids []int
	for _, k := range found {
		if k >= 0 {
			ids = append(ids, p.ids[k])
		}
	}
	return ids
}

// agrees holds what is found against the promises said anew.
func agrees(t *testing.T, tree walker.Tree, p *plain, l ...api.Step) {
	t.Helper()
	got, is := walker.Eval(tree, l)
	if want := p.eval(l); !is || !slices.Equal(got, want) {
		q, _ := pathq.Print(l)
		t.Fatalf("P8.3: %s in %v of %v finds %v, %v, not %v", q, p.ids, p.items, got, is, want)
	}
}

// variants are steps of each axis and test, with each of the rows of predicates.
func variants(tests []string, preds ...[]api.Pred) []api.Step {
	var l []api.Step
	for axis := api.Child; axis <= api.Self; axis++ {
		for _, test := range tests {
			for _, p := range preds {
				l = append(l, step(axis, test, p...))
			}
		}
	}
	return l
}

// edited are trees of all shapes, whose ids rise in none but the smallest.
func edited(t *testing.T) []*grove.Tree {
	t.Helper()
	var trees []*grove.Tree
	for _, seed := range []int64{1, 2, 3, 4, 5, 6} {
		chance := rand.New(rand.NewSource(seed))
		g := grove.New()
		g.Load([]api.Item{el(0, "a", "k", "1")})
		for range 8 * seed {
			change(chance, g)
		}
		trees = append(trees, g)
	}
	rises := 0
	for _, g := range trees {
		if slices.IsSorted(g.Order()) {
			rises++
		}
	}
	if rises > 2 {
		t.Fatalf("of %d trees %d are in the order of their ids", len(trees), rises)
	}
	return append(trees, grove.New())
}

// change does one edit of any kind; it may be refused.
func change(chance *rand.Rand, g *grove.Tree) {
	id := func() int { return g.Order()[chance.Intn(g.Len())] }
	at := chance.Intn(3)
	names, texts := []string{"a", "b", "k"}, []string{"", "x", "1"}
	name, text := names[chance.Intn(3)], texts[chance.Intn(3)]
	switch chance.Intn(8) {
	case 0, 1:
		g.Insert(id(), at, []api.Item{el(0, name), tx(1, text), el(1, "b", "k", text)})
	case 2:
		g.Insert(id(), at, []api.Item{tx(0, text), el(0, name)})
	case 3:
		if g.Len() > 12 {
			g.Delete(id())
		}
	case 4, 5:
		g.Move(id(), id(), at)
	case 6:
		g.SetAttr(id(), name, text)
	case 7:
		g.SetText(id(), text)
	}
}

// P8.1, P8.2, P8.3: every step, and every two, in trees that were edited.
func TestTwoSteps(t *testing.T) {
	tests := []string{"a", "b", "*", "text()", "node()"}
	firsts := variants(tests, nil, []api.Pred{place(1)}, []api.Pred{place(2)}, []api.Pred{last}, []api.Pred{has("k")}, []api.Pred{equals("k", "1")}, []api.Pred{says("x")}, []api.Pred{says("")}, []api.Pred{equals("k", "")})
	for _, g := range edited(t) {
		p := rowOf(g)
		within := step(api.Within, "node()")
		for _, s := range firsts {
			agrees(t, g, p, s)
			agrees(t, g, p, within, s)
			agrees(t, p, p, within, s)
			for _, m := range variants([]string{"node()"}, nil, []api.Pred{place(2)}, []api.Pred{last}) {
				agrees(t, g, p, within, s, m)
			}
		}
	}
}

// P8.2: two predicates, and three, one behind the other, from each node.
func TestManyPredicates(t *testing.T) {
	kinds := []api.Pred{place(1), place(2), place(3), last, has("k"), has("b"), equals("k", "1"), equals("k", ""), says("x"), says("")}
	within := step(api.Within, "node()")
	for _, g := range edited(t) {
		p := rowOf(g)
		for _, one := range kinds {
			for _, two := range kinds {
				for _, s := range variants([]string{"*", "node()"}, []api.Pred{one, two}) {
					agrees(t, g, p, within, s)
				}
				for _, three := range kinds {
					agrees(t, g, p, within, step(api.Preceding, "node()", one, two, three))
					agrees(t, g, p, within, step(api.Ancestor, "node()", one, two, three))
					agrees(t, g, p, step(api.Descendant, "node()", one, two, three))
				}
			}
		}
	}
}

// P8.3: long queries, as long as they may be.
func TestLongQueries(t *testing.T) {
	chance := rand.New(rand.NewSource(7))
	all := variants([]string{"a", "*", "node()", "node()", "node()"}, nil, nil, nil, nil, []api.Pred{place(1)}, []api.Pred{last}, []api.Pred{has("k")}, []api.Pred{says("x")})
	for _, g := range edited(t) {
		p := rowOf(g)
		for range 1000 {
			var l []api.Step
			for range 3 + chance.Intn(18) {
				l = append(l, all[chance.Intn(len(all))])
				// A row that has come to nothing would find nothing from there on.
				if found, _ := walker.Eval(g, l); len(found) == 0 {
					l = l[:len(l)-1]
				}
			}
			if len(l) > 0 {
				agrees(t, g, p, l...)
			}
		}
	}
}
