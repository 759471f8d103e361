package unit_test

import (
	"fmt"
	"testing"

	"orrery/api"
	"orrery/unit"
)

// Short ways to write trees.

func tree(kind int, kids ...api.Tree) api.Tree { return api.Tree{Kind: kind, Kids: kids} }

func one() api.Tree { return tree(api.UOne) }

func name(s string) api.Tree { return api.Tree{Kind: api.UName, Name: s} }

func mul(a, b api.Tree) api.Tree { return tree(api.UMul, a, b) }

func div(a, b api.Tree) api.Tree { return tree(api.UDiv, a, b) }

func pow(t api.Tree, n, d int64) api.Tree {
	return api.Tree{Kind: api.UPow, Num: q(n, d), Kids: []api.Tree{t}}
}

func bases() ([]string, []api.Dim) {
	return []string{"m", "s", "kg"}, []api.Dim{dim(1), dim(0, 1), dim(0, 0, 1)}
}

func TestOf(t *testing.T) {
	names, dims := bases()
	names, dims = append(names, "full"), append(dims, at(6, q(top, 1)))
	m, s, kg, full := name("m"), name("s"), name("kg"), name("full")
	for _, c := range []struct {
		tree api.Tree
		want answer
	}{
		{one(), is(plain())},
		{m, is(dim(1))},
		{kg, is(dim(0, 0, 1))},
		{mul(m, s), is(dim(1, 1))},
		{div(m, s), is(dim(1, -1))},
		{div(div(kg, m), div(s, m)), is(dim(0, -1, 1))},
		{div(one(), s), is(dim(0, -1))},
		{pow(s, 2, 1), is(dim(0, 2))},
		{pow(s, 0, 1), is(plain())},
		{pow(pow(s, 2, 3), -1, 2), is(at(1, q(-1, 3)))},
		{pow(s, 65, 1), is(dim(0, 65))}, // no file has such a power, but Times takes it
		{pow(s, top, 1), is(dim(0, top))},
		{pow(full, 0, 1), is(plain())},
		{div(full, full), is(plain())},
		{pow(full, -1, 1), is(at(6, q(-top, 1)))},
		{mul(full, m), is(dim(1, 0, 0, 0, 0, 0, top))},
		{mul(full, full), failed(api.ErrOver)},
		{pow(full, 2, 1), failed(api.ErrOver)},
		{div(one(), mul(full, full)), failed(api.ErrOver)},
		{name("x"), failed(api.ErrName)},
		{name(""), failed(api.ErrName)},
		{name("M"), failed(api.ErrName)},
		{mul(m, name("x")), failed(api.ErrName)},
		{pow(name("x"), 1, 1), failed(api.ErrName)},
	} {
		checkOf(t, c.tree, names, dims, c.want)
	}
	checkOf(t, one(), nil, nil, is(plain()))
	checkOf(t, m, nil, nil, failed(api.ErrName))
}

func TestOfPowersThatMayNotBe(t *testing.T) {
	names, dims := bases()
	for _, p := range wrong() {
		checkOf(t, pow(name("m"), p.N, p.D), names, dims, failed(api.ErrArg))
		checkOf(t, pow(one(), p.N, p.D), names, dims, failed(api.ErrArg))
		checkOf(t, pow(name("x"), p.N, p.D), names, dims, failed(api.ErrName)) // of the Kid first
		checkOf(t, mul(pow(name("m"), p.N, p.D), name("x")), names, dims, failed(api.ErrArg))
	}
}

// The first place of a name tells; names may be any texts.
func TestOfNames(t *testing.T) {
	names := []string{"a", "b", "a", "", "b", "model", "é x"}
	dims := []api.Dim{dim(1), dim(2), dim(3), dim(4), dim(5), dim(6), dim(7)}
	for s, n := range map[string]int64{"a": 1, "b": 2, "": 4, "model": 6, "é x": 7} {
		checkOf(t, name(s), names, dims, is(dim(n)))
	}
}

// ErrArg is ahead of all, also of trees that write nothing.
func TestOfArguments(t *testing.T) {
	names, dims := bases()
	for _, tr := range []api.Tree{one(), name("m"), name("x"), {}, tree(api.UMul), pow(one(), 0, 0)} {
		checkOf(t, tr, names, dims[:2], failed(api.ErrArg))
		checkOf(t, tr, names[:2], dims, failed(api.ErrArg))
		checkOf(t, tr, nil, dims, failed(api.ErrArg))
		checkOf(t, tr, names, nil, failed(api.ErrArg))
		for i := range dims {
			for _, d := range wrongDims() {
				_, other := bases()
				other[i] = d
				checkOf(t, tr, names, other, failed(api.ErrArg))
			}
		}
	}
}

// A kind that writes no dimension, or too few or too many Kids, at each place.
func TestOfTrees(t *testing.T) {
	names, dims := bases()
	wrongTree := failed(api.ErrTree)
	around := func(tr api.Tree) {
		t.Helper()
		m, x := name("m"), name("x")
		checkOf(t, tr, names, dims, wrongTree)
		checkOf(t, mul(tr, x), names, dims, wrongTree)
		checkOf(t, div(m, tr), names, dims, wrongTree)
		checkOf(t, mul(x, tr), names, dims, failed(api.ErrName)) // the first one from the left
		checkOf(t, mul(pow(m, 1, 0), tr), names, dims, failed(api.ErrArg))
		checkOf(t, pow(tr, 1, 0), names, dims, wrongTree)
	}
	kinds := []int{-1, 13, 19, 25, 29, 42, 1 << 40, -1 << 63}
	for kind := range 13 {
		kinds = append(kinds, kind)
	}
	for kind := api.DFile; kind <= api.DType; kind++ {
		kinds = append(kinds, kind)
	}
	for _, kind := range kinds {
		for n := range 4 {
			around(api.Tree{Kind: kind, Name: "m", Num: q(1, 1), N: 1, Kids: []api.Tree{one(), one(), one()}[:n]})
		}
	}
	for kind, kids := range map[int]int{api.UOne: 0, api.UName: 0, api.UMul: 2, api.UDiv: 2, api.UPow: 1} {
		for n := range 5 {
			if n != kids {
				around(api.Tree{Kind: kind, Name: "m", Num: q(1, 1), Kids: []api.Tree{name("m"), one(), one(), one()}[:n]})
			}
		}
	}
}

// A node that has not its Kids is not gone into.
func TestOfOwnKidsFirst(t *testing.T) {
	names, dims := bases()
	x := name("x")
	for _, tr := range []api.Tree{tree(api.UMul, x), tree(api.UMul, x, x, x), tree(api.UDiv, x), tree(api.UPow, x, x), tree(api.UOne, x), {Kind: api.UName, Name: "x", Kids: []api.Tree{x}}} {
		checkOf(t, tr, names, dims, failed(api.ErrTree))
	}
}

// Which of two errors is told: the one further to the left.
func TestOfOrder(t *testing.T) {
	names, dims := bases()
	names, dims = append(names, "full"), append(dims, dim(top))
	wrongs := map[api.Errno]api.Tree{
		api.ErrName: name("x"),
		api.ErrTree: tree(api.UMul, one()),
		api.ErrOver: mul(name("full"), name("m")),
		api.ErrArg:  pow(one(), 2, 2),
	}
	for e, first := range wrongs {
		for _, second := range wrongs {
			for _, tr := range []api.Tree{mul(first, second), div(first, second), mul(mul(one(), first), second), div(name("s"), mul(first, second)), pow(div(first, second), 1, 0)} {
				checkOf(t, tr, names, dims, failed(e))
			}
		}
	}
	checkOf(t, mul(name("full"), mul(name("m"), name("x"))), names, dims, failed(api.ErrName)) // Times comes behind both
	checkOf(t, mul(mul(name("full"), name("m")), name("x")), names, dims, failed(api.ErrOver))
}

// Fields that a kind does not need are not looked at.
func TestOfOtherFields(t *testing.T) {
	names, dims := bases()
	fill := func(tr api.Tree) api.Tree {
		tr.Alias, tr.N, tr.M, tr.Flag = "??", -1, 1<<40, true
		if tr.Kind != api.UName {
			tr.Name = "x"
		}
		if tr.Kind != api.UPow {
			tr.Num = q(2, 2)
		}
		return tr
	}
	m, s := fill(name("m")), fill(name("s"))
	checkOf(t, fill(mul(fill(one()), fill(div(m, fill(pow(s, 2, 1)))))), names, dims, is(dim(1, -2)))
}

func (d drawn) tree(deep int) api.Tree {
	switch d.Intn(40) {
	case 0:
		return tree(pick(d, 0, 1, 2, 7, 19, 25, 30, 31, 41), one())
	case 1:
		return api.Tree{Kind: pick(d, api.UOne, api.UName, api.UMul, api.UDiv, api.UPow), Name: "m", Num: q(1, 1), Kids: []api.Tree{one(), one(), one()}[:d.Intn(4)]}
	case 2:
		return name("x")
	}
	if deep == 0 {
		return pick(d, one(), name("m"), name("s"), name("kg"), name("h"), name("z"))
	}
	switch d.Intn(4) {
	case 0:
		p := pick(d, q(1, 2), q(-1, 1), q(2, 1), q(-1, 3), q(64, 1), q(63, 64), pick(d, append(edges(), wrong()...)...))
		return pow(d.tree(deep-1), p.N, p.D)
	case 1:
		return mul(d.tree(deep-1), d.tree(d.Intn(deep)))
	case 2:
		return div(d.tree(d.Intn(deep)), d.tree(deep-1))
	}
	return d.tree(deep - 1)
}

func TestOfByChance(t *testing.T) {
	d := draw(2)
	told := map[api.Errno]int{}
	for range 20000 {
		names, dims := bases()
		names, dims = append(names, "h", "z"), append(dims, d.dim(), d.wildDim())
		tr := d.tree(d.Intn(6))
		got, e := unit.Of(tr, names, dims)
		check(t, answered(got, e), answered(wantOf(tr, names, dims)), tr, dims)
		told[e]++
	}
	for _, e := range []api.Errno{api.OK, api.ErrArg, api.ErrOver, api.ErrTree, api.ErrName} {
		if told[e] < 200 {
			t.Error(told)
		}
	}
}

// A tree may be as deep as 2^16 nodes, and have nodes that are at many places at once, or within themselves.
func TestOfEnds(t *testing.T) {
	names, dims := bases()
	deep := name("m")
	for range 1 << 14 {
		deep = pow(div(mul(one(), deep), name("s")), 1, 1)
	}
	want := dim(1, -(1 << 14))
	check(t, answered(unit.Of(deep, names, dims)), is(want), "deep")

	shared := one()
	for range 200 {
		kids := []api.Tree{shared, shared}
		shared = tree(api.UMul, kids...)
	}
	check(t, answered(unit.Of(shared, names, dims)), is(plain()), "shared")

	for _, kind := range []int{api.UMul, api.UDiv, api.UPow} {
		kids := []api.Tree{one(), one()}
		if kind == api.UPow {
			kids = kids[:1]
		}
		for i := range kids {
			ring := make([]api.Tree, len(kids))
			copy(ring, kids)
			ring[i] = api.Tree{Kind: kind, Num: q(1, 1), Kids: ring}
			if _, e := unit.Of(ring[i], names, dims); e != api.ErrTree {
				t.Error(fmt.Sprint("a ring of ", kind, " at ", i, ": "), e)
			}
		}
	}
}

// Nodes at many places are told at each of them.
func TestOfShared(t *testing.T) {
	names, dims := bases()
	kids := []api.Tree{name("m"), pow(name("s"), 1, 2)}
	checkOf(t, mul(tree(api.UMul, kids...), div(tree(api.UDiv, kids...), api.Tree{Kind: api.UPow, Num: q(2, 1), Kids: kids[1:]})), names, dims, is(dim(2, -1)))
}
