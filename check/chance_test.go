package check_test

import (
	"fmt"
	"maps"
	"math/rand"
	"slices"
	"testing"

	"orrery/api"
	"orrery/check"
)

// drawn makes files by chance.
type drawn struct{ *rand.Rand }

func draw(seed int64) drawn { return drawn{rand.New(rand.NewSource(seed))} }

func pick[T any](d drawn, from ...T) T { return from[d.Intn(len(from))] }

// constant is an expression over some parameters.
func (d drawn) constant(over []string, depth int) api.Tree {
	inner := func() api.Tree { return d.constant(over, depth-1) }
	kind := d.Intn(9)
	if depth == 0 {
		kind = d.Intn(4)
	}
	switch kind {
	case 4:
		return tree(api.ENeg, inner())
	case 5, 6, 7:
		return tree(api.EAdd+d.Intn(4), inner(), inner())
	case 8:
		return api.Tree{Kind: api.EPow, N: d.Intn(129) - 64, Kids: []api.Tree{inner()}}
	}
	if len(over) > 0 && kind > 0 {
		return ref(pick(d, over...))
	}
	return number(d.Int63n(100))
}

// other is an expression that need not be constant.
func (d drawn) other() api.Tree {
	indexed := ref("k0", "x0")
	indexed.Kids[d.Intn(2)].Kids = []api.Tree{number(1)}
	call := api.Tree{Kind: api.ECall, N: api.TSqrt + d.Intn(6), Kids: []api.Tree{number(1)}}
	return pick(d, tree(api.ETime), tree(api.EDer, ref("k0")), call, ref("k0", "k0"), ref("x0"), ref("k0"), ref("k1"), ref("k2"), ref("z"), indexed, tree(api.ERef, indexed.Kids[0]), tree(api.ENeg, tree(api.ETime)), number(1))
}

func (d drawn) dim() []api.Tree {
	m, s := named(api.UName, "m"), named(api.UName, "s")
	return pick(d, nil, nil, []api.Tree{m}, []api.Tree{tree(api.UDiv, m, s)}, []api.Tree{tree(api.UOne)})
}

// model has parts of some of these classes; what it says of itself fits.
func (d drawn) model(name string, others []api.Tree) api.Tree {
	class := model(name)
	var ks []string
	for i := range d.Intn(4) {
		k := fmt.Sprint("k", i)
		class.Kids = append(class.Kids, parameter(k, d.constant(ks, 2), d.dim()...))
		ks = append(ks, k)
	}
	for i := range d.Intn(4) {
		class.Kids = slices.Insert(class.Kids, d.Intn(len(class.Kids)+1), variable(fmt.Sprint("x", i), d.Intn(17), false, d.dim()...))
	}
	for i := range min(d.Intn(4), len(others)) {
		class.Kids = slices.Insert(class.Kids, d.Intn(len(class.Kids)+1), d.part(fmt.Sprint("p", i), pick(d, others...), ks))
	}
	for range d.Intn(4) {
		class.Kids = slices.Insert(class.Kids, d.Intn(len(class.Kids)+1), d.unnamed(ks))
	}
	return class
}

func (d drawn) part(name string, class api.Tree, over []string) api.Tree {
	p := part(name, class.Name)
	p.N = d.Intn(17)
	theirs := params(class.Kids)
	slices.Sort(theirs)
	theirs = slices.Compact(theirs)
	d.Shuffle(len(theirs), func(i, j int) { theirs[i], theirs[j] = theirs[j], theirs[i] })
	for _, k := range theirs[:d.Intn(len(theirs)+1)] {
		p.Kids = append(p.Kids, named(api.IMod, k, d.constant(over, 2)))
	}
	return p
}

// unnamed is a start or a rule.
func (d drawn) unnamed(ks []string) api.Tree {
	switch d.Intn(4) {
	case 0:
		return tree(api.IStart, pick(d, ref("x0"), tree(api.EDer, ref("x1", "z"))), d.constant(ks, 2), d.constant(ks, 2))
	case 1:
		return d.loop(2)
	}
	return d.rule()
}

func (d drawn) rule() api.Tree {
	return pick(d, tree(api.IEquation, d.other(), d.other()), tree(api.IConnect, ref("p0", "x0"), ref("p1")))
}

func (d drawn) loop(depth int) api.Tree {
	from := d.Intn(30)
	l := loop(pick(d, "i", "x0", "k0"), from, d.Intn(from+16))
	for range d.Intn(3) {
		if depth > 0 && d.Intn(2) == 0 {
			l.Kids = append(l.Kids, d.loop(depth-1))
			continue
		}
		l.Kids = append(l.Kids, d.rule())
	}
	return l
}

// file is one that fits: classes have parts of those that were made ahead of them, but stand in any order.
func (d drawn) file() api.Tree {
	var made []api.Tree
	for i := range d.Intn(7) {
		name := fmt.Sprint("C", i)
		if d.Intn(4) > 0 {
			made = append(made, d.model(name, made))
			continue
		}
		c := connector(name)
		for j := range d.Intn(4) {
			c.Kids = append(c.Kids, variable(fmt.Sprint("x", j), 0, d.Intn(2) == 0, d.dim()...))
		}
		made = append(made, c)
	}
	f := file(named(api.DUnit, "m"), named(api.DUnit, "s"))
	for i, at := range d.Perm(len(made)) {
		f.Kids = append(f.Kids, made[at])
		if d.Intn(4) == 0 {
			f.Kids = append(f.Kids, named(api.DUnit, fmt.Sprint("u", i), named(api.UName, "m")))
		}
	}
	if d.Intn(2) == 0 {
		f.Kids = append(f.Kids[2:], f.Kids[:2]...) // units behind, too
		f.Kids = slices.DeleteFunc(f.Kids, func(t api.Tree) bool { return t.Kind == api.DUnit && len(t.Kids) > 0 })
	}
	return f
}

// nodesByKind are all nodes of a tree that change knows to change, expressions as one kind.
func nodesByKind(t *api.Tree, found map[int][]*api.Tree) {
	kind := t.Kind
	if api.ENum <= kind && kind <= api.EPow && kind != api.EPart {
		kind = api.ENum
	}
	if kind != api.IStart && kind != api.IConnect && kind != api.IEquation && (kind < api.UOne || kind > api.UPow) {
		found[kind] = append(found[kind], t)
	}
	for i := range t.Kids {
		nodesByKind(&t.Kids[i], found)
	}
}

// change makes one node, somewhere, another one: of each kind as often.
func (d drawn) change(t *api.Tree) {
	found := map[int][]*api.Tree{}
	nodesByKind(t, found)
	t = pick(d, found[pick(d, slices.Sorted(maps.Keys(found))...)]...)
	switch t.Kind {
	case api.DFile, api.DClass, api.IFor:
		d.changeList(t)
	case api.DUnit:
		t.Name = pick(d, "m", "s", "u0", "v")
	case api.IParam, api.IMod, api.EPart:
		t.Name = pick(d, "k0", "k1", "k2", "x0")
	case api.IVar:
		d.changeVariable(t)
	case api.IPart:
		d.changePart(t)
	case api.DType:
		t.Kids = []api.Tree{pick(d, named(api.UName, "kg"), named(api.UName, "s"), tree(api.UMul, named(api.UName, "m"), named(api.UName, "C0")))}
	default:
		*t = d.other()
	}
}

// changeList changes a class, a loop, or the places and number of what a node has.
func (d drawn) changeList(t *api.Tree) {
	n := len(t.Kids)
	what := d.Intn(5)
	switch {
	case what == 0 && t.Kind == api.DClass:
		t.N = 3 - t.N
	case what == 1 && t.Kind == api.DClass:
		t.Name = fmt.Sprint("C", d.Intn(7))
	case what < 2 && t.Kind == api.IFor:
		t.M = t.N + pick(d, 15, 16, 17)
	case n == 0:
	case what == 2:
		t.Kids = append(t.Kids, t.Kids[d.Intn(n)])
	case what == 3:
		t.Kids = slices.Delete(t.Kids, n-1, n)
	default:
		i, j := d.Intn(n), d.Intn(n)
		t.Kids[i], t.Kids[j] = t.Kids[j], t.Kids[i]
	}
}

func (d drawn) changeVariable(t *api.Tree) {
	switch d.Intn(3) {
	case 0:
		t.Name = pick(d, "x0", "x1", "x2", "k0", "p0")
	case 1:
		t.N = pick(d, 0, 1, 16, 17)
	case 2:
		t.Flag = !t.Flag
	}
}

func (d drawn) changePart(t *api.Tree) {
	switch d.Intn(6) {
	case 0:
		t.Name = pick(d, "x0", "p0", "p1", "k0")
	case 1:
		t.N = pick(d, 0, 1, 16, 17)
	case 2, 3, 4:
		t.Alias, t.Kids = pick(d, "C0", "C1", "C2", "C3", "C4", "C5", "Z"), nil
	case 5:
		t.Kids = append(t.Kids, named(api.IMod, pick(d, "k0", "k1", "k2", "x0"), d.other()))
	}
}

// changed is a file that mostly doesn't fit.
func (d drawn) changed() api.Tree {
	f := copied(d.file())
	for range 1 + d.Intn(3) {
		d.change(&f)
		f = copied(f)
	}
	return f
}

func TestByChance(t *testing.T) {
	t.Parallel()
	d := draw(1)
	told := map[api.Errno]int{}
	for range 3000 {
		f := d.changed()
		e, name := wanted(f)
		checkTree(t, f, e, name)
		told[e]++
		if f = d.file(); told[api.OK] < 500 {
			checkTree(t, f, api.OK, "")
		}
		if t.Failed() {
			return
		}
	}
	for e, least := range map[api.Errno]int{api.OK: 500, api.ErrLong: 50, api.ErrTree: 10, api.ErrName: 300, api.ErrTwice: 300, api.ErrClass: 100, api.ErrCycle: 5} {
		if told[e] < least {
			t.Error(told)
		}
	}
}

// Classes with parts alone, of any of them.
func TestCyclesByChance(t *testing.T) {
	t.Parallel()
	d := draw(7)
	told := map[said]int{}
	for range 2000 {
		f, n := file(), 1+d.Intn(12)
		for i := range n {
			class := model(fmt.Sprint("C", i))
			for j := range d.Intn(3) {
				class.Kids = append(class.Kids, part(fmt.Sprint("p", j), fmt.Sprint("C", d.Intn(n))))
			}
			f.Kids = append(f.Kids, class)
		}
		e, name := wanted(f)
		checkTree(t, f, e, name)
		told[said{e, name}]++
	}
	for _, want := range []said{{api.OK, ""}, {api.ErrCycle, "C0"}, {api.ErrCycle, "C1"}, {api.ErrCycle, "C3"}} {
		if told[want] < 50 {
			t.Error(told)
		}
	}
}

// Trees of any kinds: the call ends, and tells what the words tell.
func TestJunk(t *testing.T) {
	t.Parallel()
	d := draw(2)
	for range 2000 {
		f := copied(d.file())
		whole := copied(f)
		at := &f
		for len(at.Kids) > 0 && d.Intn(4) > 0 {
			at = &at.Kids[d.Intn(len(at.Kids))]
		}
		*at = api.Tree{Kind: d.Intn(44) - 1, Name: pick(d, "", "x0", "C1", "m"), Alias: pick(d, "", "C0"), N: d.Intn(4) - 1, M: d.Intn(2), Kids: pick(d, at.Kids, nil, whole.Kids[:1])}
		f = copied(f)
		e, name := wanted(f)
		checkTree(t, f, e, name)
		for _, class := range []string{"C0", "C1", "x0", ""} {
			checkClass(t, f, class, slices.IndexFunc(f.Kids, func(t api.Tree) bool { return t.Kind == api.DClass && t.Name == class }))
		}
		if t.Failed() {
			return
		}
	}
}

func checkedOK(f api.Tree) bool {
	e, _ := check.Check(f)
	return e == api.OK
}

// No call keeps anything.
func TestSameAgain(t *testing.T) {
	d := draw(8)
	var files []api.Tree
	var answers []said
	for range 200 {
		f := pick(d, d.changed(), d.file())
		e, name := check.Check(f)
		files, answers = append(files, f), append(answers, said{e, name})
	}
	for range 1000 {
		i := d.Intn(len(files))
		check.Class(files[d.Intn(len(files))], "C1")
		if e, name := check.Check(files[i]); (said{e, name}) != answers[i] {
			t.Fatalf("%v: %d %q, and then %v", files[i], e, name, answers[i])
		}
	}
}
