package grove_test

import (
	"fmt"
	"math"
	"slices"
	"testing"

	"incunable/api"
	"incunable/glyph"
	"incunable/grove"
	"incunable/parse"
)

const lastNext = 1<<31 - 1

// plain says the chapter's promises anew, of a tree that is a row: each item with its id, and what is next.
type plain struct {
	items []api.Item
	ids   []int
	next  int
}

// due is an error, and whether it is due.
type due struct {
	e  api.Errno
	is func() bool
}

func first(l ...due) api.Errno {
	for _, d := range l {
		if d.is() {
			return d.e
		}
	}
	return api.OK
}

func (p *plain) copy() *plain { return &plain{deep(p.items), slices.Clone(p.ids), p.next} }

// at tells the number of a node's item, -1 if there is none.
func (p *plain) at(id int) int { return slices.Index(p.ids, id) }

func (p *plain) none(id int) func() bool {
	return func() bool { return p.at(id) < 0 }
}

func (p *plain) kind(id, kind int) func() bool {
	return func() bool { return p.items[p.at(id)].Kind == kind }
}

// kids tells the numbers of the items of a node's kids.
func (p *plain) kids(id int) []int {
	var l []int
	for k := range p.items {
		if in := parse.Parent(p.items, k); in >= 0 && p.ids[in] == id {
			l = append(l, k)
		}
	}
	return l
}

// inside tells whether a node is another one, or below it.
func (p *plain) inside(id, other int) bool {
	k, from := p.at(id), p.at(other)
	return k >= from && k < parse.End(p.items, from)
}

// lay lays items with their ids in a node, at a place, or as the whole where there is no node.
func (p *plain) lay(parent, at int, l []api.Item, ids []int) {
	k, level := 0, 0
	if len(p.items) > 0 {
		in := p.at(parent)
		k, level = parse.End(p.items, in), p.items[in].Level+1
		if kids := p.kids(parent); at < len(kids) {
			k = kids[at]
		}
	}
	l = deep(l)
	for i := range l {
		l[i].Level += level
	}
	p.items, p.ids = slices.Insert(p.items, k, l...), slices.Insert(p.ids, k, ids...)
}

// lift takes a node with all below it out, and tells both, at Level 0 and on.
func (p *plain) lift(id int) ([]api.Item, []int) {
	k := p.at(id)
	end := parse.End(p.items, k)
	l, ids := deep(p.items[k:end]), slices.Clone(p.ids[k:end])
	for i := len(l) - 1; i >= 0; i-- {
		l[i].Level -= l[0].Level
	}
	p.items, p.ids = slices.Delete(p.items, k, end), slices.Delete(p.ids, k, end)
	return l, ids
}

func (p *plain) give(many int) []int {
	var ids []int
	for range many {
		ids = append(ids, p.next)
		p.next++
	}
	return ids
}

func (p *plain) load(l []api.Item) (int, api.Errno) {
	if _, e := parse.Check(l); e != api.OK {
		return 0, e
	}
	if p.next+len(l) > lastNext {
		return 0, api.ErrTreeMany
	}
	p.items, p.ids = nil, nil
	p.lay(0, 0, l, p.give(len(l)))
	return p.ids[0], api.OK
}

func badText(s string) api.Errno {
	return first(
		due{api.ErrTreeChar, func() bool { return glyph.Count(s) < 0 }},
		due{api.ErrTreeLong, func() bool { return len(s) > api.MaxText }},
	)
}

// badParts tells what parse.Check says of Kind, names and texts.
func badParts(i api.Item) api.Errno {
	if i.Kind == api.Text {
		if i.Name != "" || len(i.Attrs) != 0 {
			return api.ErrTreeKind
		}
		return badText(i.Text)
	}
	if i.Kind != api.Element || i.Text != "" {
		return api.ErrTreeKind
	}
	if !glyph.Name(i.Name) {
		return api.ErrTreeName
	}
	for k, a := range i.Attrs {
		if !glyph.Name(a.Name) || k > 0 && i.Attrs[k-1].Name >= a.Name {
			return api.ErrTreeName
		}
	}
	if len(i.Attrs) > api.MaxAttrs {
		return api.ErrTreeLong
	}
	for _, a := range i.Attrs {
		if e := badText(a.Value); e != api.OK {
			return e
		}
	}
	return api.OK
}

func badForest(l []api.Item) api.Errno {
	if len(l) == 0 {
		return api.ErrParseRoot
	}
	for k, i := range l {
		if i.Level < 0 || k == 0 && i.Level > 0 {
			return api.ErrTreePlace
		}
		if k > 0 && (i.Level > l[k-1].Level+1 || i.Level == l[k-1].Level+1 && l[k-1].Kind == api.Text) {
			return api.ErrTreePlace
		}
		if e := badParts(i); e != api.OK {
			return e
		}
	}
	return api.OK
}

func height(l []api.Item) int {
	most := 0
	for _, i := range l {
		most = max(most, i.Level)
	}
	return most
}

func (p *plain) insert(parent, at int, l []api.Item) (int, api.Errno) {
	of := badForest(l)
	e := first(
		due{api.ErrTreeNone, p.none(parent)},
		due{api.ErrTreeKind, p.kind(parent, api.Text)},
		due{api.ErrTreePlace, func() bool { return at < 0 || at > len(p.kids(parent)) }},
		due{of, func() bool { return of != api.OK }},
		due{api.ErrTreeDeep, func() bool { return p.items[p.at(parent)].Level+1+height(l) >= api.MaxDepth }},
		due{api.ErrTreeMany, func() bool { return len(p.items)+len(l) > api.MaxNodes }},
		due{api.ErrTreeMany, func() bool { return p.next+len(l) > lastNext }},
	)
	if e != api.OK {
		return 0, e
	}
	ids := p.give(len(l))
	p.lay(parent, at, l, ids)
	return ids[0], api.OK
}

func (p *plain) remove(id int) api.Errno {
	e := first(
		due{api.ErrTreeNone, p.none(id)},
		due{api.ErrTreeRoot, func() bool { return p.ids[0] == id }},
	)
	if e == api.OK {
		p.lift(id)
	}
	return e
}

func (p *plain) move(id, parent, at int) api.Errno {
	rest := p.copy()
	var l []api.Item
	var ids []int
	e := first(
		due{api.ErrTreeNone, p.none(id)},
		due{api.ErrTreeNone, p.none(parent)},
		due{api.ErrTreeRoot, func() bool { return p.ids[0] == id }},
		due{api.ErrTreeKind, p.kind(parent, api.Text)},
		due{api.ErrTreeLoop, func() bool { return p.inside(parent, id) }},
		due{api.ErrTreePlace, func() bool {
			l, ids = rest.lift(id)
			return at < 0 || at > len(rest.kids(parent))
		}},
		due{api.ErrTreeDeep, func() bool { return rest.items[rest.at(parent)].Level+1+height(l) >= api.MaxDepth }},
	)
	if e == api.OK {
		rest.lay(parent, at, l, ids)
		*p = *rest
	}
	return e
}

func (p *plain) setAttr(id int, name, value string) api.Errno {
	had := func() []api.Attr { return p.items[p.at(id)].Attrs }
	named := func(a api.Attr) bool { return a.Name == name }
	e := first(
		due{api.ErrTreeNone, p.none(id)},
		due{api.ErrTreeKind, p.kind(id, api.Text)},
		due{api.ErrTreeName, func() bool { return !glyph.Name(name) }},
		due{api.ErrTreeChar, func() bool { return glyph.Count(value) < 0 }},
		due{api.ErrTreeLong, func() bool { return len(value) > api.MaxText }},
		due{api.ErrTreeLong, func() bool { return len(had()) == api.MaxAttrs && !slices.ContainsFunc(had(), named) }},
	)
	if e == api.OK {
		var l []api.Attr
		for _, a := range had() {
			if a.Name < name {
				l = append(l, a)
			}
		}
		l = append(l, api.Attr{Name: name, Value: value})
		for _, a := range had() {
			if a.Name > name {
				l = append(l, a)
			}
		}
		p.items[p.at(id)].Attrs = l
	}
	return e
}

func (p *plain) delAttr(id int, name string) api.Errno {
	var l, had []api.Attr
	e := first(
		due{api.ErrTreeNone, p.none(id)},
		due{api.ErrTreeKind, p.kind(id, api.Text)},
		due{api.ErrTreeName, func() bool {
			had = p.items[p.at(id)].Attrs
			for _, a := range had {
				if a.Name != name {
					l = append(l, a)
				}
			}
			return len(l) == len(had)
		}},
	)
	if e == api.OK {
		p.items[p.at(id)].Attrs = l
	}
	return e
}

func (p *plain) setText(id int, text string) api.Errno {
	bad := badText(text)
	e := first(
		due{api.ErrTreeNone, p.none(id)},
		due{api.ErrTreeKind, p.kind(id, api.Element)},
		due{bad, func() bool { return bad != api.OK }},
	)
	if e == api.OK {
		p.items[p.at(id)].Text = text
	}
	return e
}

// get tells a node as api has it.
func (p *plain) get(id int) (api.Node, bool) {
	k := p.at(id)
	if k < 0 {
		return api.Node{}, false
	}
	i, parent := p.items[k], 0
	if in := parse.Parent(p.items, k); in >= 0 {
		parent = p.ids[in]
	}
	return api.Node{Id: id, Parent: parent, Kind: i.Kind, Kids: len(p.kids(id)), Name: i.Name, Text: i.Text, Attrs: i.Attrs}, true
}

// pair is a tree, and what the promises say that it is.
type pair struct {
	t    *testing.T
	tree *grove.Tree
	want *plain
}

func fresh(t *testing.T) *pair { return &pair{t, grove.New(), &plain{next: 1}} }

// loaded tells a pair with the items of l, whose ids are 1 and on.
func loaded(t *testing.T, l ...api.Item) *pair {
	t.Helper()
	p := fresh(t)
	if id := p.load(l); id != 1 {
		t.Fatalf("P6.1: Load(%s) is %d", brief(l), id)
	}
	return p
}

// restored tells a pair with the items of l and these ids.
func restored(t *testing.T, l []api.Item, ids []int, next int) *pair {
	t.Helper()
	tree, e := grove.Restore(l, ids, next)
	if e != api.OK || tree == nil {
		t.Fatalf("P6.5: Restore(%s, %v, %d) is %d", brief(l), ids, next, e)
	}
	p := &pair{t, tree, &plain{deep(l), slices.Clone(ids), next}}
	p.check("Restore")
	return p
}

// copy tells a pair that goes its own way.
func (p *pair) copy() *pair { return &pair{p.t, p.tree.Clone(), p.want.copy()} }

// check holds all that a tree tells against what is wanted.
func (p *pair) check(call string) {
	p.t.Helper()
	w := p.want
	root := 0
	if len(w.ids) > 0 {
		root = w.ids[0]
	}
	if p.tree.Root() != root || p.tree.Len() != len(w.ids) || p.tree.Next() != w.next {
		p.t.Fatalf("P6: behind %s: Root %d, Len %d, Next %d, not %d, %d, %d", call, p.tree.Root(), p.tree.Len(), p.tree.Next(), root, len(w.ids), w.next)
	}
	if o := p.tree.Order(); !slices.Equal(o, w.ids) {
		p.t.Fatalf("P6: behind %s: Order %v, not %v", call, o, w.ids)
	}
	l := p.tree.Items(root)
	if !equal(l, w.items) {
		p.t.Fatalf("P6: behind %s: Items %s, not %s", call, brief(l), brief(w.items))
	}
	if k, e := parse.Check(l); e != api.OK && len(w.ids) > 0 {
		p.t.Fatalf("P6.6: behind %s: no document: %d at %d: %s", call, e, k, brief(l))
	}
}

// checkEach holds what a tree tells of each node, and of ids that none has, against what is wanted.
func (p *pair) checkEach() {
	p.t.Helper()
	w := p.want
	for _, id := range append([]int{math.MinInt, -1, 0, w.next, w.next + 1, math.MaxInt}, upTo(1, min(w.next, 60))...) {
		got, is := p.tree.Get(id)
		node, has := w.get(id)
		if is != has || !sameNode(got, node) {
			p.t.Fatalf("P6.5: Get(%d) is %v, %v, not %v, %v", id, got, is, node, has)
		}
		kids := w.kids(id)
		for _, k := range append([]int{math.MinInt, math.MaxInt}, upTo(-1, len(kids)+2)...) {
			kid := 0
			if k >= 0 && k < len(kids) {
				kid = w.ids[kids[k]]
			}
			if got, is := p.tree.Kid(id, k); got != kid || is != (kid > 0) {
				p.t.Fatalf("P6.5: Kid(%d, %d) is %d, %v, not %d", id, k, got, is, kid)
			}
		}
		var below []api.Item
		if has {
			below, _ = w.copy().lift(id)
		}
		if l := p.tree.Items(id); !equal(l, below) {
			p.t.Fatalf("P6.5: Items(%d) is %s, not %s", id, brief(l), brief(below))
		}
	}
}

// answered holds an answer against the one that is wanted, and all else likewise.
func (p *pair) answered(call string, id, wantId int, e, wantE api.Errno) {
	p.t.Helper()
	if id != wantId || e != wantE {
		p.t.Fatalf("P6: %s is %d, %d, not %d, %d", call, id, e, wantId, wantE)
	}
	p.check(call)
}

func (p *pair) load(l []api.Item) int {
	p.t.Helper()
	was := deep(l)
	id, e := p.tree.Load(l)
	if !equal(l, was) {
		p.t.Fatalf("R5: Load changed %s", brief(was))
	}
	wantId, wantE := p.want.load(l)
	p.answered("Load("+brief(l)+")", id, wantId, e, wantE)
	return id
}

func (p *pair) insert(parent, at int, l ...api.Item) (int, api.Errno) {
	p.t.Helper()
	was := deep(l)
	id, e := p.tree.Insert(parent, at, l)
	if !equal(l, was) {
		p.t.Fatalf("R5: Insert changed %s", brief(was))
	}
	wantId, wantE := p.want.insert(parent, at, l)
	p.answered(fmt.Sprintf("Insert(%d, %d, %s)", parent, at, brief(l)), id, wantId, e, wantE)
	return id, e
}

func (p *pair) remove(id int) api.Errno {
	p.t.Helper()
	e := p.tree.Delete(id)
	p.answered(fmt.Sprintf("Delete(%d)", id), 0, 0, e, p.want.remove(id))
	return e
}

func (p *pair) move(id, parent, at int) api.Errno {
	p.t.Helper()
	e := p.tree.Move(id, parent, at)
	p.answered(fmt.Sprintf("Move(%d, %d, %d)", id, parent, at), 0, 0, e, p.want.move(id, parent, at))
	return e
}

func (p *pair) setAttr(id int, name, value string) api.Errno {
	p.t.Helper()
	e := p.tree.SetAttr(id, name, value)
	p.answered(fmt.Sprintf("SetAttr(%d, %.80q, %.80q)", id, name, value), 0, 0, e, p.want.setAttr(id, name, value))
	return e
}

func (p *pair) delAttr(id int, name string) api.Errno {
	p.t.Helper()
	e := p.tree.DelAttr(id, name)
	p.answered(fmt.Sprintf("DelAttr(%d, %.80q)", id, name), 0, 0, e, p.want.delAttr(id, name))
	return e
}

func (p *pair) setText(id int, text string) api.Errno {
	p.t.Helper()
	e := p.tree.SetText(id, text)
	p.answered(fmt.Sprintf("SetText(%d, %.80q)", id, text), 0, 0, e, p.want.setText(id, text))
	return e
}
