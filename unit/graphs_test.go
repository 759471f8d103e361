package unit_test

import (
	"math"
	"testing"

	"orrery/api"
	"orrery/unit"
)

// graph is one that is being written; its methods tell the numbers of nodes.
type graph struct{ nodes []api.Node }

func (g *graph) put(n api.Node) int {
	g.nodes = append(g.nodes, n)
	return len(g.nodes) - 1
}

func (g *graph) x(v int) int { return g.der(v, 0) }

func (g *graph) der(v, k int) int {
	return g.put(api.Node{Kind: api.TVar, Key: api.Key{V: v, K: k}})
}

func (g *graph) num(n int64, d api.Dim) int {
	return g.put(api.Node{Kind: api.TConst, Num: q(n, 1), Dim: d})
}

func (g *graph) time() int { return g.put(api.Node{Kind: api.TTime}) }

func (g *graph) op(kind, a, b int) int { return g.put(api.Node{Kind: kind, A: a, B: b}) }

func (g *graph) of(kind, a int) int { return g.put(api.Node{Kind: kind, A: a}) }

func (g *graph) sub(a, b int) int { return g.op(api.TSub, a, b) }

func (g *graph) mul(a, b int) int { return g.op(api.TMul, a, b) }

func (g *graph) pow(a, n int) int { return g.put(api.Node{Kind: api.TPow, A: a, N: n}) }

// much is a to the power 2^60.
func (g *graph) much(a int) int {
	for range 10 {
		a = g.pow(a, 64)
	}
	return a
}

// unknown stands for a dimension that is not given.
func unknown() api.Dim { return api.Dim{} }

// ask asks for what variables are; seconds are the second base unit.
func (g *graph) ask(vars []api.Dim, eqs ...int) question {
	k := question{nodes: g.nodes, eqs: eqs, vars: vars, second: dim(0, 1)}
	for _, d := range vars {
		k.given = append(k.given, d != unknown())
	}
	return k
}

// askAll has all nodes as equations.
func (g *graph) askAll(vars ...api.Dim) question {
	k := g.ask(vars)
	for i := range g.nodes {
		k.eqs = append(k.eqs, i)
	}
	return k
}

func kinds() []int {
	var all []int
	for kind := api.TConst; kind <= api.TTime; kind++ {
		all = append(all, kind)
	}
	return all
}

// sound is a node of any kind, as it must be behind two others of which the first one is a plain number, with whatever values in fields that it does not need.
func sound(kind, a, b int, other api.Node) api.Node {
	n := other
	n.Kind = kind
	switch needs(kind) {
	case 2:
		n.A, n.B = a, b
	case 1:
		n.A = a
	}
	switch kind {
	case api.TConst:
		n.Num, n.Dim = q(1, 1), plain()
	case api.TVar:
		n.Key = api.Key{}
	case api.TPow:
		n.N = 1
	}
	return n
}

// wild are nodes whose fields may not be at all.
func wild() []api.Node {
	return []api.Node{
		{},
		{A: -1, B: -1, N: -65, Key: api.Key{V: -1, K: -1}, Num: q(1, 0)},
		{A: math.MaxInt, B: math.MaxInt, N: math.MaxInt, Key: api.Key{V: math.MaxInt, K: 7}, Num: q(2, 2), Dim: at(6, q(0, 2))},
		{A: math.MinInt, B: math.MinInt, N: math.MinInt, Key: api.Key{V: math.MinInt, K: math.MinInt}, Num: q(math.MinInt64, 1)},
	}
}

func TestFieldsThatAreNotNeeded(t *testing.T) {
	for _, other := range wild() {
		for _, kind := range kinds() {
			var g graph
			g.put(sound(api.TConst, 0, 0, other))
			g.put(sound(api.TVar, 0, 0, other))
			k := g.ask([]api.Dim{plain()}, g.put(sound(kind, 0, 1, other)))
			k.second = plain()
			checkInfer(t, k, []api.Dim{plain()}, api.OK)
		}
	}
}

// checkGraph asks for ErrGraph, whether the equation needs the last node or not, and ahead of ErrArg.
func checkGraph(t *testing.T, g graph, want api.Errno) {
	t.Helper()
	for _, eqs := range [][]int{{len(g.nodes) - 1}, {0}, nil} {
		k := g.ask([]api.Dim{plain()}, eqs...)
		k.second = plain()
		_, e := unit.Infer(k.nodes, k.eqs, k.vars, k.given, k.second)
		if e != want {
			t.Errorf("%v: %d, want %d", k, e, want)
		}
		if e := checkByWords(t, k); e != want {
			t.Errorf("%v: %d, want %d", k, e, want)
		}
		if want != api.OK {
			checkInfer(t, question{nodes: g.nodes, eqs: eqs, given: []bool{true}}, nil, api.ErrGraph)
		}
	}
}

func TestKinds(t *testing.T) {
	for _, kind := range []int{math.MinInt, -1, 0, 16, 17, 1 << 32, 1<<32 + 1, math.MaxInt} {
		checkGraph(t, graph{[]api.Node{sound(api.TConst, 0, 0, api.Node{}), {Kind: kind, Num: q(0, 1), Dim: plain()}}}, api.ErrGraph)
	}
	for _, kind := range kinds() {
		number, variable := sound(api.TConst, 0, 0, api.Node{}), sound(api.TVar, 0, 0, api.Node{})
		checkGraph(t, graph{[]api.Node{number, variable, sound(kind, 0, 1, api.Node{})}}, api.OK)
		checkGraph(t, graph{[]api.Node{number, variable, sound(kind, 1, 0, api.Node{})}}, api.OK)
	}
}

func TestOperands(t *testing.T) {
	number, variable := sound(api.TConst, 0, 0, api.Node{}), sound(api.TVar, 0, 0, api.Node{})
	for _, kind := range kinds() {
		for _, wrong := range []int{2, 3, -1, math.MinInt, math.MaxInt} {
			n := sound(kind, 0, 1, api.Node{})
			want := map[bool]api.Errno{true: api.ErrGraph, false: api.OK}
			n.A = wrong
			checkGraph(t, graph{[]api.Node{number, variable, n, number}}, want[needs(kind) > 0])
			n = sound(kind, 0, 1, api.Node{})
			n.B = wrong
			checkGraph(t, graph{[]api.Node{number, variable, n, number}}, want[needs(kind) > 1])
		}
	}
	checkGraph(t, graph{[]api.Node{{Kind: api.TNeg}}}, api.ErrGraph)
	checkGraph(t, graph{[]api.Node{{Kind: api.TAdd}}}, api.ErrGraph)
}

func TestFieldsThatAreNeeded(t *testing.T) {
	number := sound(api.TConst, 0, 0, api.Node{})
	for _, c := range []struct {
		n    api.Node
		want api.Errno
	}{
		{api.Node{Kind: api.TPow, N: 64}, api.OK},
		{api.Node{Kind: api.TPow, N: -64}, api.OK},
		{api.Node{Kind: api.TPow, N: 65}, api.ErrGraph},
		{api.Node{Kind: api.TPow, N: -65}, api.ErrGraph},
		{api.Node{Kind: api.TPow, N: math.MinInt}, api.ErrGraph},
		{api.Node{Kind: api.TVar, Key: api.Key{K: 6}}, api.OK},
		{api.Node{Kind: api.TVar, Key: api.Key{K: 7}}, api.ErrGraph},
		{api.Node{Kind: api.TVar, Key: api.Key{K: -1}}, api.ErrGraph},
		{api.Node{Kind: api.TVar, Key: api.Key{K: math.MaxInt}}, api.ErrGraph},
		{api.Node{Kind: api.TVar, Key: api.Key{V: -1}}, api.ErrGraph},
		{api.Node{Kind: api.TVar, Key: api.Key{V: math.MinInt}}, api.ErrGraph},
		{api.Node{Kind: api.TConst, Num: q(top, top-1), Dim: at(3, q(-top, 2))}, api.OK},
	} {
		checkGraph(t, graph{[]api.Node{number, c.n}}, c.want)
	}
	for _, n := range wrong() {
		checkGraph(t, graph{[]api.Node{number, {Kind: api.TConst, Num: n, Dim: plain()}}}, api.ErrGraph)
	}
	for _, d := range wrongDims() {
		checkGraph(t, graph{[]api.Node{number, {Kind: api.TConst, Num: q(1, 1), Dim: d}}}, api.ErrGraph)
		checkGraph(t, graph{[]api.Node{number, {Kind: api.TConst, Num: q(0, 1), Dim: d}}}, api.ErrGraph)
	}
}

func TestEquations(t *testing.T) {
	var g graph
	g.sub(g.x(0), g.num(1, dim(1)))
	for _, eqs := range [][]int{{-1}, {3}, {2, 3}, {2, -1}, {math.MaxInt}, {math.MinInt}, {-1, 2}, {0, 1, 2, 3}} {
		k := g.ask([]api.Dim{unknown()}, eqs...)
		checkInfer(t, k, nil, api.ErrGraph)
		k.given = nil
		checkInfer(t, k, nil, api.ErrGraph) // ahead of ErrArg
	}
	for _, eqs := range [][]int{{2}, {2, 2}, {0, 1, 2}, {2, 1, 0, 2}} {
		checkInfer(t, g.ask([]api.Dim{unknown()}, eqs...), []api.Dim{dim(1)}, api.OK)
	}
	for _, eqs := range [][]int{nil, {}, {0}, {1, 0}} {
		checkInfer(t, g.ask([]api.Dim{unknown()}, eqs...), []api.Dim{plain()}, api.OK)
	}
	checkInfer(t, question{second: plain(), eqs: []int{0}}, nil, api.ErrGraph)
	checkInfer(t, question{second: plain()}, nil, api.OK)
}

func TestSizes(t *testing.T) {
	for _, n := range []int{3999, 4000, 4001, 5000} {
		var g graph
		g.x(0)
		for len(g.nodes) < n-2 {
			g.of(api.TNeg, len(g.nodes)-1)
		}
		m := g.num(1, dim(1))
		k := g.ask([]api.Dim{unknown()}, g.sub(m-1, m))
		if n > 4000 {
			checkInfer(t, k, nil, api.ErrGraph)
		} else {
			checkInfer(t, k, []api.Dim{dim(1)}, api.OK)
		}
	}
}

func TestInferArguments(t *testing.T) {
	var g graph
	g.sub(g.x(0), g.x(1))
	full := g.num(1, at(0, q(top, 1)))
	bad := g.of(api.TSin, g.pow(full, 2)) // has no room, and is not plain
	k := g.ask([]api.Dim{dim(1), unknown()}, 2)
	checkInfer(t, k, []api.Dim{dim(1), dim(1)}, api.OK)
	for _, given := range [][]bool{nil, {}, {true}, {true, false, false}, {true, false, true}, make([]bool, 10)} {
		for _, eqs := range [][]int{{2}, {}, {bad}} {
			k := g.ask(k.vars, eqs...)
			k.given = given
			checkInfer(t, k, nil, api.ErrArg)
		}
	}
	k = g.ask(nil)
	k.given = []bool{false}
	checkInfer(t, k, nil, api.ErrArg)
	for _, d := range wrongDims() {
		k := g.ask([]api.Dim{dim(1), unknown()}, bad)
		k.second = d
		checkInfer(t, k, nil, api.ErrArg)
		for v := range 3 {
			k := g.ask([]api.Dim{dim(1), dim(1), dim(1)}, 2)
			k.vars[v], k.given[v] = d, true
			checkInfer(t, k, nil, api.ErrArg)
			k.eqs = nil
			checkInfer(t, k, nil, api.ErrArg)
			k.eqs = []int{bad}
			checkInfer(t, k, nil, api.ErrArg)
		}
		k = g.ask([]api.Dim{dim(1), unknown()}, 2)
		k.vars[1] = d // what is not given is not looked at
		checkInfer(t, k, []api.Dim{dim(1), dim(1)}, api.OK)
	}
}

// A TVar of a variable that is not there matters, if an equation needs it.
func TestVariablesThatAreNotThere(t *testing.T) {
	for _, v := range []int{2, 3, 1 << 40, math.MaxInt} {
		var g graph
		strange := g.of(api.TNeg, g.der(v, 1))
		fit := g.sub(g.x(0), g.x(1))
		over := g.pow(g.num(1, dim(top)), 2)
		both := g.mul(strange, over)
		vars := []api.Dim{unknown(), dim(3)}
		checkInfer(t, g.ask(vars, fit), []api.Dim{dim(3), dim(3)}, api.OK)
		checkInfer(t, g.ask(vars, fit, 0), nil, api.ErrArg)
		checkInfer(t, g.ask(vars, strange), nil, api.ErrArg)
		checkInfer(t, g.ask(vars, over, strange), nil, api.ErrArg)
		checkInfer(t, g.ask(vars, both), nil, api.ErrArg)
		checkInfer(t, g.ask(vars, over), nil, api.ErrOver)
		checkInfer(t, g.ask(nil, fit), nil, api.ErrArg)
		checkInfer(t, g.ask(nil), nil, api.OK)
		g.put(api.Node{Kind: api.TVar, Key: api.Key{V: 0, K: 7}})
		checkInfer(t, g.ask(vars, strange), nil, api.ErrGraph)
	}
}
