package symb_test

import (
	"math"
	"testing"

	"orrery/api"
	"orrery/symb"
)

// checkAll asks all three functions of nodes whose last one is the root, and holds their error against one that is wanted.
func checkAll(t *testing.T, nodes []api.Node, want api.Errno, roots ...int) {
	t.Helper()
	g := asked{nodes: nodes, roots: roots}
	if _, e := built(t, g); e != want {
		t.Errorf("Build of %v: %d, want %d", g, e, want)
	}
	if _, e := diffed(t, g); e != want {
		t.Errorf("Diff of %v: %d, want %d", g, e, want)
	}
	if len(roots) == 1 {
		if _, e := usedBy(t, g, roots[0]); e != want {
			t.Errorf("Uses of %v: %d, want %d", g, e, want)
		}
	}
}

func kinds() []int {
	var all []int
	for kind := api.TConst; kind <= api.TTime; kind++ {
		all = append(all, kind)
	}
	return all
}

// sound is a node of any kind, as it may be behind two others, with whatever values in fields that it does not need.
func sound(kind int, other api.Node) api.Node {
	n := other
	n.Kind = kind
	if needs(kind) > 0 {
		n.A = 0
	}
	if needs(kind) > 1 {
		n.B = 1
	}
	switch kind {
	case api.TConst:
		n.Num, n.Dim = q(3, 2), dim(q(1, 2))
	case api.TVar:
		n.Key = api.Key{V: 2, K: 1}
	case api.TPow:
		n.N = 3
	}
	return n
}

// wild are nodes whose fields may not be at all.
func wild() []api.Node {
	return []api.Node{
		{},
		{A: -1, B: -1, N: -65, Key: api.Key{V: -1, K: -1}, Num: q(1, 0)},
		{A: math.MaxInt, B: math.MaxInt, N: math.MaxInt, Key: api.Key{V: math.MaxInt, K: 7}, Num: q(2, 2), Dim: dim(q(0, 2))},
		{A: math.MinInt, B: math.MinInt, N: math.MinInt, Key: api.Key{V: math.MinInt, K: math.MinInt}, Num: q(math.MinInt64, 1)},
		{A: 5, B: 7, N: 3, Key: api.Key{V: 1, K: 1}, Num: q(1, 1), Dim: dim(q(1, 1))},
	}
}

// What a kind does not need is not looked at, and is zero in what is built: nodes that are alike but for that are the same.
func TestFieldsThatAreNotNeeded(t *testing.T) {
	for _, kind := range kinds() {
		plain := asked{nodes: []api.Node{variable(0, 0), variable(1, 0), sound(kind, api.Node{})}, roots: []int{0, 1, 2}}
		want, e := built(t, plain)
		if e != api.OK {
			t.Fatal(kind, e)
		}
		wantRates, _ := diffed(t, plain)
		for _, other := range wild() {
			g := plain.copied()
			g.nodes[0] = other
			g.nodes[0].Kind, g.nodes[0].Key = api.TVar, api.Key{}
			g.nodes[2] = sound(kind, other)
			g.nodes = append(g.nodes, sound(kind, api.Node{}))
			got, e := built(t, g)
			if e != api.OK || !got.same(want) {
				t.Errorf("%v: %d, %v", g, e, got)
			}
			if got, e = diffed(t, g); e != api.OK || !got.same(wantRates) {
				t.Errorf("%v: %d, %v", g, e, got)
			}
			g.roots = append(g.roots, 3)
			if got, e = built(t, g); e != api.OK || len(got.nodes) != len(want.nodes) || got.roots[2] != got.roots[3] {
				t.Errorf("%v: %d, %v", g, e, got)
			}
			usedBy(t, g, 2)
			for i := range 4 {
				usedBy(t, g, i)
			}
		}
	}
}

func TestKinds(t *testing.T) {
	x, y := variable(0, 0), variable(1, 0)
	for _, kind := range []int{math.MinInt, -1, 0, 16, 17, 1 << 32, 1<<32 + 1, math.MaxInt} {
		n := api.Node{Kind: kind, B: 1, N: 1, Num: q(0, 1), Dim: dim()}
		checkAll(t, []api.Node{x, y, n}, api.ErrGraph, 2)
		checkAll(t, []api.Node{x, y, n}, api.ErrGraph, 0) // needed or not
		checkAll(t, []api.Node{x, y, n}, api.ErrGraph)
	}
	for _, kind := range kinds() {
		checkAll(t, []api.Node{x, y, sound(kind, api.Node{})}, api.OK, 2)
	}
}

func TestOperands(t *testing.T) {
	x, y := variable(0, 0), variable(1, 0)
	for _, kind := range kinds() {
		for _, wrong := range []int{2, 3, 4, -1, math.MinInt, math.MaxInt, 1 << 32} {
			for root := range 4 {
				want := map[bool]api.Errno{true: api.ErrGraph, false: api.OK}
				n := sound(kind, api.Node{})
				n.A = wrong
				checkAll(t, []api.Node{x, y, n, x}, want[needs(kind) > 0], root)
				n = sound(kind, api.Node{})
				n.B = wrong
				checkAll(t, []api.Node{x, y, n, x}, want[needs(kind) > 1], root)
			}
		}
	}
	checkAll(t, []api.Node{{Kind: api.TNeg}}, api.ErrGraph, 0)
	checkAll(t, []api.Node{{Kind: api.TAdd}}, api.ErrGraph)
	checkAll(t, []api.Node{{Kind: api.TTime}}, api.OK, 0)
}

func TestFieldsThatAreNeeded(t *testing.T) {
	x := variable(0, 0)
	for _, c := range []struct {
		n    api.Node
		want api.Errno
	}{
		{api.Node{Kind: api.TPow, N: 64}, api.OK},
		{api.Node{Kind: api.TPow, N: -63}, api.OK},
		{api.Node{Kind: api.TPow, N: 65}, api.ErrGraph},
		{api.Node{Kind: api.TPow, N: -65}, api.ErrGraph},
		{api.Node{Kind: api.TPow, N: math.MinInt}, api.ErrGraph},
		{api.Node{Kind: api.TPow, N: 1 << 32}, api.ErrGraph},
		{variable(0, 5), api.OK},
		{variable(math.MaxInt, 0), api.OK},
		{variable(0, 7), api.ErrGraph},
		{variable(0, -1), api.ErrGraph},
		{variable(0, math.MaxInt), api.ErrGraph},
		{variable(-1, 0), api.ErrGraph},
		{variable(math.MinInt, 0), api.ErrGraph},
		{num(q(math.MaxInt64, 2)), api.OK},
		{num(q(-math.MaxInt64, math.MaxInt64-1)), api.OK},
		{num(q(math.MinInt64, 1)), api.ErrGraph},
		{num(q(1, 0)), api.ErrGraph},
		{num(q(0, 2)), api.ErrGraph},
		{num(q(2, 2)), api.ErrGraph},
		{num(q(1, -1)), api.ErrGraph},
		{num(api.Rat{}), api.ErrGraph},
		{api.Node{Kind: api.TConst, Num: q(1, 1)}, api.ErrGraph},
		{api.Node{Kind: api.TConst, Num: q(0, 1), Dim: dim(q(0, 1), q(0, 2))}, api.ErrGraph},
		{api.Node{Kind: api.TConst, Num: q(0, 1), Dim: dim(q(0, 1), q(0, 1), q(0, 1), q(0, 1), q(0, 1), q(0, 1), q(0, 0))}, api.ErrGraph},
		{api.Node{Kind: api.TConst, Num: q(0, 1), Dim: dim(q(math.MaxInt64, 2))}, api.OK},
	} {
		for _, roots := range [][]int{{1}, {0}, {}} {
			checkAll(t, []api.Node{x, c.n}, c.want, roots...)
			checkAll(t, []api.Node{x, c.n, x}, c.want, roots...)
		}
	}
	for _, n := range []api.Node{variable(0, 6), {Kind: api.TPow, N: -64}} { // may be, but have no derivatives
		g := asked{nodes: []api.Node{x, n}, roots: []int{1}}
		if _, e := built(t, g); e != api.OK {
			t.Error(g, e)
		}
		if _, e := diffed(t, g); e != api.ErrLong {
			t.Error(g, e)
		}
		usedBy(t, g, 1)
	}
}

func TestRootsThatAreNoNodes(t *testing.T) {
	nodes := read("x y * sin ;").nodes
	for _, roots := range [][]int{{-1}, {4}, {5}, {3, 4}, {3, -1}, {-1, 3}, {0, 1, 2, 3, 4}, {math.MaxInt}, {math.MinInt}, {1 << 32}} {
		checkAll(t, nodes, api.ErrGraph, roots...)
	}
	for _, roots := range [][]int{{}, {3}, {3, 3}, {0, 1, 2, 3}, {3, 2, 1, 0, 3}} {
		checkAll(t, nodes, api.OK, roots...)
	}
	checkAll(t, nil, api.ErrGraph, 0)
	checkAll(t, nil, api.ErrGraph, -1)
	checkAll(t, []api.Node{}, api.ErrGraph, 0, 0)
	checkAll(t, nil, api.OK)
}

// ErrGraph is told ahead of ErrLong.
func TestGraphFirst(t *testing.T) {
	for _, text := range []string{"x'''''' ;", "x ^-64 ;"} {
		g := read(text)
		checkAll(t, g.nodes, api.ErrGraph, len(g.nodes)-1, len(g.nodes))
		checkAll(t, append(g.nodes, api.Node{}), api.ErrGraph, len(g.nodes)-1)
	}
	g := deep(4000, api.TSin)
	if _, e := diff(asked{g.nodes, []int{3999, 4000}, nil}); e != api.ErrGraph {
		t.Error(e)
	}
}

func TestSizes(t *testing.T) {
	for _, n := range []int{3999, 4000, 4001, 4002, 10000} {
		want := map[bool]api.Errno{true: api.OK, false: api.ErrGraph}[n <= 4000]
		g := deep(n, api.TNeg)
		for _, roots := range [][]int{{n - 1}, {0}, {}} {
			g.roots = roots
			if got, e := build(g); e != want || len(got.nodes) > 2 {
				t.Errorf("%d: Build %d", n, e)
			}
			if got, e := diff(g); e != want || len(got.nodes) > 4 {
				t.Errorf("%d: Diff %d", n, e)
			}
		}
		k, e := symb.Uses(g.nodes, n-1)
		if e != want || len(k) != map[api.Errno]int{api.OK: 1}[want] {
			t.Errorf("%d: Uses %d %v", n, e, k)
		}
	}
}

// Many roots take no more nodes.
func TestManyRoots(t *testing.T) {
	g := read("x y * sin ;")
	g.roots = nil
	for i := range 100000 {
		g.roots = append(g.roots, i%4)
	}
	got, e := build(g)
	if e != api.OK || len(got.nodes) != 4 || len(got.roots) != 100000 || got.roots[99999] != 3 {
		t.Error(e)
	}
	if got, e = diff(g); e != api.OK || len(got.rates) != 100000 || got.rates[99999] != got.rates[3] {
		t.Error(e)
	}
}
