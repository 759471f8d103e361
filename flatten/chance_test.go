package flatten_test

import (
	"fmt"
	"math/rand"
	"slices"
	"testing"

	"orrery/api"
	"orrery/flatten"
)

// drawn makes files by chance.
type drawn struct {
	*rand.Rand
	wrong int // one of so many references, indices and numbers is; 0: none
	units bool
}

func draw(seed int64) drawn { return drawn{Rand: rand.New(rand.NewSource(seed))} }

func pick[T any](d drawn, from ...T) T { return from[d.Intn(len(from))] }

func (d drawn) errs() bool { return d.wrong > 0 && d.Intn(d.wrong) == 0 }

// constant is an expression over some parameters.
func (d drawn) constant(over []string, depth int) api.Tree {
	inner := func() api.Tree { return d.constant(over, depth-1) }
	kind := d.Intn(9)
	if depth == 0 {
		kind = d.Intn(4)
	}
	switch kind {
	case 4:
		return tree(api.ENeg, inner())
	case 5, 6, 7:
		return tree(pick(d, api.EAdd, api.ESub, api.EMul), inner(), inner())
	case 8:
		if d.wrong > 0 && d.Intn(15) == 0 {
			return pick(d, tree(api.EDiv, inner(), number(0)), power(number(2), 63), power(number(0), -1), tree(api.EMul, inner(), number(1<<62)))
		}
		return pick(d, power(inner(), d.Intn(4)), tree(api.EDiv, inner(), number(1+d.Int63n(9))), power(tree(api.EAdd, number(1), number(d.Int63n(3))), -1-d.Intn(3)))
	}
	if len(over) > 0 && kind > 0 {
		return ref(pick(d, over...))
	}
	return number(d.Int63n(10))
}

func power(t api.Tree, n int) api.Tree { return api.Tree{Kind: api.EPow, N: n, Kids: []api.Tree{t}} }

func (d drawn) dim() []api.Tree {
	if !d.units {
		return nil
	}
	m, s := named(api.UName, "m"), named(api.UName, "s")
	return pick(d, nil, nil, nil, []api.Tree{m}, []api.Tree{tree(api.UDiv, m, s)}, []api.Tree{tree(api.UOne)})
}

// made is what a model's rules are drawn from.
type made struct {
	drawn
	classes map[string]api.Tree
	self    api.Tree
}

// run is a loop around: its name, and the numbers from which it runs.
type run struct {
	name     string
	from, to int
}

// index is one within 1 to n, told by a number or by a loop.
func (d made) index(n int, around []run) api.Tree {
	if d.errs() {
		return pick(d.drawn, number(0), number(int64(n+1)), ref("nobody"), tree(api.EAdd, ref("i"), number(1)), tree(api.ESub, ref("j"), number(2)))
	}
	for _, at := range d.Perm(len(around)) {
		r := around[at]
		hidden := slices.ContainsFunc(around[at+1:], func(other run) bool { return other.name == r.name })
		if hidden || r.to-r.from >= n || r.to < r.from || d.Intn(5) == 0 {
			continue
		}
		off := 1 - r.from + d.Intn(n-(r.to-r.from))
		switch {
		case off == 0:
			return pick(d.drawn, ref(r.name), tree(api.EAdd, ref(r.name), number(0)), tree(api.ESub, ref(r.name), number(0)))
		case off < 0:
			return tree(api.ESub, ref(r.name), number(int64(-off)))
		}
		return tree(api.EAdd, ref(r.name), number(int64(off)))
	}
	return number(int64(1 + d.Intn(n)))
}

// to is a reference to an item of a kind, through parts, if there is one.
func (d made) to(class api.Tree, kinds []int, around []run) (api.Tree, bool) {
	ends := ofKind(class.Kids, kinds...)
	parts := ofKind(class.Kids, api.IPart)
	d.Shuffle(len(parts), func(i, j int) { parts[i], parts[j] = parts[j], parts[i] })
	if len(ends) > 0 && (len(parts) == 0 || d.Intn(2) == 0) {
		return tree(api.ERef, d.element(pick(d.drawn, ends...), around)), true
	}
	for _, p := range parts {
		if inner, ok := d.to(d.classes[p.Alias], kinds, around); ok {
			inner.Kids = slices.Insert(inner.Kids, 0, d.element(p, around))
			return inner, true
		}
	}
	if len(ends) > 0 {
		return tree(api.ERef, d.element(pick(d.drawn, ends...), around)), true
	}
	return api.Tree{}, false
}

func (d made) element(item api.Tree, around []run) api.Tree {
	e := named(api.EPart, item.Name)
	if (item.N > 0) != d.errs() {
		e.Kids = []api.Tree{d.index(max(1, item.N), around)}
	}
	if d.errs() {
		e.Name = pick(d.drawn, "x0", "k0", "p0", "nobody")
	}
	return e
}

// variable is a reference to one, or some other expression, if there is none.
func (d made) variable(around []run) api.Tree {
	kinds := []int{api.IVar}
	if d.errs() {
		kinds = []int{api.IParam, api.IPart}
	}
	if t, ok := d.to(d.self, kinds, around); ok {
		return t
	}
	return ref("nobody")
}

// term is an expression's end.
func (d made) term(around []run) api.Tree {
	switch d.Intn(6) {
	case 0:
		return number(d.Int63n(5))
	case 1:
		return tree(api.ETime)
	case 2:
		return tree(api.EDer, d.variable(around))
	case 3:
		if t, ok := d.to(d.self, []int{api.IParam}, around); ok {
			return t
		}
	}
	return d.variable(around)
}

// side is one of an equation. With units it is made of what always fits beside 0, or of one term.
func (d made) side(around []run, depth int) api.Tree {
	inner := func() api.Tree { return d.side(around, depth-1) }
	kind := d.Intn(8)
	switch {
	case depth == 0:
		return d.term(around)
	case kind == 0:
		return tree(api.ENeg, inner())
	case kind == 1:
		return power(inner(), d.Intn(9)-4)
	case kind == 2 && !d.units:
		return api.Tree{Kind: api.ECall, N: api.TSqrt + d.Intn(6), Kids: []api.Tree{inner()}}
	case kind == 3 && !d.units:
		return tree(pick(d.drawn, api.EAdd, api.ESub), inner(), inner())
	case kind < 6:
		return tree(pick(d.drawn, api.EMul, api.EDiv), inner(), inner())
	}
	return d.term(around)
}

func (d made) equation(around []run) api.Tree {
	a, b := d.side(around, 2), number(0)
	if !d.units {
		b = d.side(around, 1)
	} else if d.Intn(6) == 0 {
		b = d.variable(around)
	}
	if d.Intn(2) == 0 {
		a, b = b, a
	}
	return equation(a, b)
}

// ends are the ways to connectors of a class, with one part or two.
func (d made) ends(class string, around []run) []api.Tree {
	var list []api.Tree
	for _, p := range ofKind(d.self.Kids, api.IPart) {
		if p.Alias == class {
			list = append(list, tree(api.ERef, d.element(p, around)))
		}
		for _, q := range ofKind(d.classes[p.Alias].Kids, api.IPart) {
			if q.Alias == class {
				list = append(list, tree(api.ERef, d.element(p, around), d.element(q, around)))
			}
		}
	}
	return list
}

func (d made) connect(around []run) (api.Tree, bool) {
	class := pick(d.drawn, "P", "P", "Q", "E")
	a, b := d.ends(class, around), d.ends(class, around)
	if d.errs() {
		b = append(d.ends("P", around), d.variable(around))
	}
	if len(a) == 0 || len(b) == 0 {
		return api.Tree{}, false
	}
	return tree(api.IConnect, pick(d.drawn, a...), pick(d.drawn, b...)), true
}

func (d made) rule(around []run, depth int) api.Tree {
	switch kind := d.Intn(8); {
	case kind < 4:
		if c, ok := d.connect(around); ok {
			return c
		}
	case kind < 6 && depth > 0:
		from := d.Intn(4)
		if d.Intn(8) == 0 {
			from += 999990
		}
		r := run{pick(d.drawn, "i", "j", "x0", "k0"), from, from + d.Intn(4) - 1}
		l := loop(r.name, r.from, max(0, r.to))
		for range d.Intn(3) {
			l.Kids = append(l.Kids, d.rule(append(slices.Clone(around), r), depth-1))
		}
		return l
	}
	return d.equation(around)
}

func (d made) start(ks []string) api.Tree {
	to := d.variable(nil)
	if d.Intn(3) == 0 {
		to = tree(api.EDer, to)
	}
	return tree(api.IStart, to, d.constant(ks, 2), d.constant(ks, 2))
}

// model has items of all kinds, in any order that may be.
func (d drawn) model(name string, others []api.Tree) api.Tree {
	class := model(name)
	var ks []string
	for i := range d.Intn(4) {
		k := fmt.Sprint("k", i)
		class.Kids = append(class.Kids, parameter(k, d.constant(ks, 2), d.dim()...))
		ks = append(ks, k)
	}
	put := func(t api.Tree) { class.Kids = slices.Insert(class.Kids, d.Intn(len(class.Kids)+1), t) }
	for i := range d.Intn(3) {
		put(variable(fmt.Sprint("x", i), pick(d, 0, 0, 1, 2, 3), false, d.dim()...))
	}
	for i := range 1 + d.Intn(3) {
		put(d.part(fmt.Sprint("p", i), pick(d, others...), ks))
	}
	m := made{d, map[string]api.Tree{}, copied(class)}
	for _, other := range others {
		m.classes[other.Name] = other
	}
	for range d.Intn(5) {
		put(m.rule(nil, 2))
	}
	if d.Intn(2) == 0 {
		put(m.start(ks))
	}
	return class
}

func (d drawn) part(name string, class api.Tree, over []string) api.Tree {
	p := part(name, pick(d, 0, 0, 1, 2, 3), class.Name)
	theirs := ofKind(class.Kids, api.IParam)
	for _, at := range d.Perm(len(theirs))[:d.Intn(len(theirs)+1)] {
		p.Kids = append(p.Kids, named(api.IMod, theirs[at].Name, d.constant(over, 2)))
	}
	return p
}

// file is one of some connectors and models, of which the last one has parts of those ahead.
func (d drawn) file() api.Tree {
	connectors := []api.Tree{
		connector("P", variable("e", 0, false, d.dim()...), variable("f", 0, true, d.dim()...)),
		connector("Q", variable("f", 0, true), variable("g", 0, true, d.dim()...)),
		connector("E", variable("e", 0, false)),
	}
	classes := slices.Clone(connectors)
	for i := range 1 + d.Intn(4) {
		classes = append(classes, d.model(fmt.Sprint("C", i), classes))
	}
	main := classes[len(classes)-1]
	f := file()
	for _, at := range d.Perm(len(classes) - 1) {
		f.Kids = append(f.Kids, classes[at])
	}
	f.Kids = append(f.Kids, main)
	for _, c := range connectors { // some behind it
		if d.Intn(2) == 0 {
			f.Kids = append(slices.DeleteFunc(f.Kids, func(t api.Tree) bool { return t.Name == c.Name }), c)
		}
	}
	units := []api.Tree{named(api.DUnit, "m"), named(api.DUnit, "s")}
	for _, u := range units {
		f.Kids = slices.Insert(f.Kids, d.Intn(len(f.Kids)+1), u)
	}
	return copied(f)
}

func TestByChance(t *testing.T) {
	t.Parallel()
	told := map[api.Errno]int{}
	larger := 0
	for seed := range int64(2500) {
		d := draw(seed)
		d.wrong = pick(d, 0, 0, 40, 100)
		d.units = d.Intn(3) == 0
		f, e := flatTree(t, d.file())
		told[e]++
		if len(f.Eqs) > 5 {
			larger++
		}
		if t.Failed() {
			return
		}
	}
	for e, least := range map[api.Errno]int{api.OK: 1000, api.ErrLong: 30, api.ErrOver: 10, api.ErrPivot: 10, api.ErrUnit: 200, api.ErrName: 50, api.ErrClass: 30, api.ErrIndex: 100} {
		if told[e] < least {
			t.Error(told)
		}
	}
	if larger < 300 {
		t.Error(larger)
	}
}

// nodesOf are pointers to a tree's nodes of some kinds.
func nodesOf(t *api.Tree, kinds ...int) []*api.Tree {
	var list []*api.Tree
	if slices.Contains(kinds, t.Kind) {
		list = append(list, t)
	}
	for i := range t.Kids {
		list = append(list, nodesOf(&t.Kids[i], kinds...)...)
	}
	return list
}

// change makes one node, somewhere, another one.
func (d drawn) change(f *api.Tree) {
	kind := pick(d, api.EPart, api.IPart, api.IVar, api.IMod, api.IStart, api.IConnect, api.IEquation, api.IFor, api.DClass, api.IParam)
	list := nodesOf(f, kind)
	if len(list) == 0 {
		return
	}
	n := pick(d, list...)
	switch kind {
	case api.EPart:
		switch d.Intn(3) {
		case 0:
			n.Name = pick(d, "x0", "x1", "k0", "p0", "p1", "e", "f", "i", "j")
		case 1:
			n.Kids = nil
		default:
			n.Kids = []api.Tree{pick(d, number(d.Int63n(5)), ref("i"), tree(api.ESub, ref("j"), number(1)))}
		}
	case api.IPart:
		n.N, n.Alias = pick(d, n.N, d.Intn(17)), pick(d, n.Alias, "P", "Q", "C0", "C1")
	case api.IVar:
		n.N, n.Flag = pick(d, n.N, d.Intn(17)), pick(d, n.Flag, n.Flag, !n.Flag)
	case api.IMod, api.IParam, api.IStart:
		n.Kids[len(n.Kids)-1] = d.constant([]string{"k0", "k1"}, 2)
	case api.IConnect, api.IEquation:
		n.Kids[0], n.Kids[1] = n.Kids[1], n.Kids[0]
	case api.IFor:
		n.N, n.M = d.Intn(4), d.Intn(5)
	case api.DClass:
		if len(n.Kids) > 0 {
			at, to := d.Intn(len(n.Kids)), d.Intn(len(n.Kids))
			n.Kids[at], n.Kids[to] = n.Kids[to], n.Kids[at]
		}
	}
}

func TestChanged(t *testing.T) {
	t.Parallel()
	told := map[api.Errno]int{}
	for seed := range int64(2000) {
		d := draw(100000 + seed)
		f := d.file()
		for range 1 + d.Intn(3) {
			d.change(&f)
			f = copied(f)
		}
		_, e := flatTree(t, f)
		told[e]++
		if t.Failed() {
			return
		}
	}
	for e, least := range map[api.Errno]int{api.OK: 500, api.ErrLong: 30, api.ErrUnit: 300, api.ErrName: 300, api.ErrClass: 100, api.ErrIndex: 50, api.ErrCycle: 30} {
		if told[e] < least {
			t.Error(told)
		}
	}
}

// Trees of any kinds: the call ends, and tells what the words tell.
func TestJunk(t *testing.T) {
	t.Parallel()
	for seed := range int64(600) {
		d := draw(200000 + seed)
		f := d.file()
		whole := copied(f)
		at := &f
		for len(at.Kids) > 0 && d.Intn(5) > 0 {
			at = &at.Kids[d.Intn(len(at.Kids))]
		}
		*at = api.Tree{Kind: d.Intn(44) - 1, Name: pick(d, "", "x0", "C1", "m"), Alias: pick(d, "", "C0"), N: d.Intn(4) - 1, M: d.Intn(2), Kids: pick(d, at.Kids, nil, whole.Kids[:1])}
		flatTree(t, copied(f))
	}
}

// No call keeps anything.
func TestSameAgain(t *testing.T) {
	t.Parallel()
	var files []api.Tree
	var answers []string
	d := draw(8)
	for range 100 {
		f := d.file()
		flat, e := flatten.Flatten(f)
		files, answers = append(files, f), append(answers, fmt.Sprint(e, written(flat)))
	}
	for range 500 {
		i := d.Intn(len(files))
		flat, e := flatten.Flatten(files[i])
		if s := fmt.Sprint(e, written(flat)); s != answers[i] {
			t.Fatalf("%s, and then %s", answers[i], s)
		}
		clear(flat.Nodes) // what was answered is nobody else's
		clear(flat.Vars)
		clear(flat.Eqs)
		clear(flat.Starts)
	}
}
