package parse_test

import (
	"math/rand"
	"strings"

	"orrery/api"
)

// Short ways to write trees.

func t0(kind int, kids ...api.Tree) api.Tree { return api.Tree{Kind: kind, Kids: kids} }

func named(kind int, name string, kids ...api.Tree) api.Tree {
	return api.Tree{Kind: kind, Name: name, Kids: kids}
}

func num(n, d int64) api.Tree { return api.Tree{Kind: api.ENum, Num: api.Rat{N: n, D: d}} }

func el(name string, index ...api.Tree) api.Tree { return named(api.EPart, name, index...) }

func ref(els ...api.Tree) api.Tree { return t0(api.ERef, els...) }

func id(name string) api.Tree { return ref(el(name)) }

func power(t api.Tree, n int) api.Tree {
	return api.Tree{Kind: api.EPow, N: n, Kids: []api.Tree{t}}
}

func call(f int, t api.Tree) api.Tree {
	return api.Tree{Kind: api.ECall, N: f, Kids: []api.Tree{t}}
}

func upower(t api.Tree, n, d int64) api.Tree {
	return api.Tree{Kind: api.UPow, Num: api.Rat{N: n, D: d}, Kids: []api.Tree{t}}
}

func class(n int, name string, items ...api.Tree) api.Tree {
	return api.Tree{Kind: api.DClass, Name: name, N: n, Kids: items}
}

func variable(name string, n int, flow bool, dim ...api.Tree) api.Tree {
	return api.Tree{Kind: api.IVar, Name: name, N: n, Flag: flow, Kids: []api.Tree{t0(api.DType, dim...)}}
}

func part(name string, n int, class string, mods ...api.Tree) api.Tree {
	return api.Tree{Kind: api.IPart, Name: name, N: n, Alias: class, Kids: mods}
}

func loop(name string, n, m int, rules ...api.Tree) api.Tree {
	return api.Tree{Kind: api.IFor, Name: name, N: n, M: m, Kids: rules}
}

// fileOf is a file of one model A with these items.
func fileOf(items ...api.Tree) api.Tree { return t0(api.DFile, class(1, "A", items...)) }

// equation is a file with one equation: this is 0.
func equation(t api.Tree) api.Tree { return fileOf(t0(api.IEquation, t, num(0, 1))) }

// equal tells whether trees are the same; a nil list is an empty one.
func equal(a, b api.Tree) bool {
	if len(a.Kids) != len(b.Kids) {
		return false
	}
	for i := range a.Kids {
		if !equal(a.Kids[i], b.Kids[i]) {
			return false
		}
	}
	return a.Kind == b.Kind && a.Name == b.Name && a.Alias == b.Alias && a.N == b.N && a.M == b.M && a.Flag == b.Flag && a.Num == b.Num
}

// copied is the same tree in other memory.
func copied(t api.Tree) api.Tree {
	kids := make([]api.Tree, len(t.Kids))
	for i, kid := range t.Kids {
		kids[i] = copied(kid)
	}
	t.Kids = kids
	return t
}

// nodes and levels are how many there are, in all and within one another.
func nodes(t api.Tree) int {
	n := 1
	for _, kid := range t.Kids {
		n += nodes(kid)
	}
	return n
}

func levels(t api.Tree) int {
	n := 0
	for _, kid := range t.Kids {
		n = max(n, levels(kid))
	}
	return n + 1
}

// drawn makes trees by chance.
type drawn struct{ *rand.Rand }

func draw(seed int64) drawn { return drawn{rand.New(rand.NewSource(seed))} }

func (d drawn) name() string {
	names := []string{"x", "y1", "Z", "i", "e", "E5", "a_b", "models", "End", "abcdefghijklmnopqrstuvwx", "in_"}
	return names[d.Intn(len(names))]
}

func (d drawn) count() int {
	counts := []int{0, 1, 2, 3, 10, 16, 17, 999999, 1000000}
	return counts[d.Intn(len(counts))]
}

func (d drawn) number() api.Rat {
	switch d.Intn(4) {
	case 0:
		return api.Rat{N: int64(d.count()), D: 1}
	case 1:
		return api.Rat{N: d.Int63(), D: 1}
	}
	divisor := int64(1)
	for range d.Intn(19) {
		divisor *= []int64{1, 2, 5, 10}[d.Intn(4)]
	}
	n := d.Int63() >> d.Intn(63)
	for _, p := range []int64{2, 5} {
		for n%p == 0 && divisor%p == 0 {
			n, divisor = n/p, divisor/p
		}
	}
	return api.Rat{N: n, D: divisor}
}

func (d drawn) exponent() int { return []int{0, 1, 2, -1, -3, 64, -64, 63}[d.Intn(8)] }

func (d drawn) some(most int, one func() api.Tree) []api.Tree {
	var list []api.Tree
	for range d.Intn(most + 1) {
		list = append(list, one())
	}
	return list
}

func (d drawn) place() api.Tree { return num(int64(d.count()), 1) }

func (d drawn) element() api.Tree {
	switch d.Intn(6) {
	case 0:
		return el(d.name(), d.place())
	case 1:
		return el(d.name(), id(d.name()))
	case 2:
		return el(d.name(), t0(api.EAdd, id(d.name()), d.place()))
	case 3:
		return el(d.name(), t0(api.ESub, id(d.name()), d.place()))
	}
	return el(d.name())
}

func (d drawn) reference() api.Tree {
	return ref(append(d.some(2, d.element), d.element())...)
}

func (d drawn) expression(depth int) api.Tree {
	inner := func() api.Tree { return d.expression(depth - 1) }
	kind := 1 + d.Intn(12)
	if depth == 0 {
		kind = 1 + d.Intn(5)
	}
	switch kind {
	case api.ENum:
		return api.Tree{Kind: api.ENum, Num: d.number()}
	case api.EDer:
		return t0(api.EDer, d.reference())
	case api.ETime:
		return t0(api.ETime)
	case api.ECall:
		return call(api.TSqrt+d.Intn(6), inner())
	case api.ENeg:
		return t0(api.ENeg, inner())
	case api.EAdd, api.ESub, api.EMul, api.EDiv:
		return t0(kind, inner(), inner())
	case api.EPow:
		return power(inner(), d.exponent())
	}
	return d.reference()
}

func (d drawn) dimension(depth int) api.Tree {
	inner := func() api.Tree { return d.dimension(depth - 1) }
	kind := api.UOne + d.Intn(5)
	if depth == 0 {
		kind = api.UOne + d.Intn(2)
	}
	switch kind {
	case api.UOne:
		return t0(api.UOne)
	case api.UMul, api.UDiv:
		return t0(kind, inner(), inner())
	case api.UPow:
		powers := []api.Rat{{N: 0, D: 1}, {N: 2, D: 1}, {N: -64, D: 1}, {N: 1, D: 2}, {N: -63, D: 64}, {N: 64, D: 63}, {N: -1, D: 1}}
		p := powers[d.Intn(len(powers))]
		return upower(inner(), p.N, p.D)
	}
	return named(api.UName, d.name())
}

func (d drawn) dimensionOrNone() []api.Tree {
	return d.some(1, func() api.Tree { return d.dimension(3) })
}

func (d drawn) rule(depth int) api.Tree {
	switch d.Intn(4) {
	case 0:
		return t0(api.IConnect, d.reference(), d.reference())
	case 1:
		if depth > 0 {
			return loop(d.name(), d.count(), d.count(), d.some(2, func() api.Tree { return d.rule(depth - 1) })...)
		}
	}
	return t0(api.IEquation, d.expression(4), d.expression(2))
}

func (d drawn) start() api.Tree {
	what := d.reference()
	if d.Intn(2) == 0 {
		what = t0(api.EDer, what)
	}
	low, high := d.expression(2), d.expression(2)
	if d.Intn(2) == 0 {
		high = copied(low)
	}
	return t0(api.IStart, what, low, high)
}

func (d drawn) item() api.Tree {
	switch d.Intn(7) {
	case 0:
		return named(api.IParam, d.name(), t0(api.DType, d.dimensionOrNone()...), d.expression(2))
	case 1, 2:
		return variable(d.name(), d.count(), d.Intn(2) == 0, d.dimensionOrNone()...)
	case 3:
		mods := d.some(3, func() api.Tree { return named(api.IMod, d.name(), d.expression(2)) })
		return part(d.name(), d.count(), d.name(), mods...)
	case 4:
		return d.start()
	}
	return d.rule(3)
}

func (d drawn) file() api.Tree {
	return t0(api.DFile, d.some(4, func() api.Tree {
		if d.Intn(3) == 0 {
			return named(api.DUnit, d.name(), d.dimensionOrNone()...)
		}
		return class(1+d.Intn(2), d.name(), d.some(5, d.item)...)
	})...)
}

// repeated is a row of so many with a blank behind each.
func repeated(s string, n int) string { return strings.Repeat(s+" ", n) }
