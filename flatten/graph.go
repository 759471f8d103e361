package flatten

import (
	"orrery/api"
	"orrery/unit"
)

// graph is all nodes, and those of them that are equations.
type graph struct {
	nodes []api.Node
	eqs   []int
}

func (g *graph) put(n api.Node) int {
	mustHaveRoom(len(g.nodes), api.MaxNodes)
	g.nodes = append(g.nodes, n)
	return len(g.nodes) - 1
}

func (g *graph) variable(v, k int) int {
	return g.put(api.Node{Kind: api.TVar, Key: api.Key{V: v, K: k}})
}

func (g *graph) equation(node int) {
	mustHaveRoom(len(g.eqs), api.MaxEqs)
	g.eqs = append(g.eqs, node)
}

// scope is where a rule stands.
type scope struct {
	in   *instance
	loop loops
}

// find is what a reference is of there.
func (s scope) find(ref api.Tree) found { return s.in.find(ref.Kids, s.loop) }

// expression puts a tree's nodes.
func (g *graph) expression(t api.Tree, s scope) int {
	switch t.Kind {
	case api.ENum:
		return g.put(api.Node{Kind: api.TConst, Num: t.Num, Dim: unit.Plain()})
	case api.ERef:
		return g.reference(s.find(t))
	case api.EDer:
		return g.variable(s.find(t.Kids[0]).variable(), 1)
	case api.ETime:
		return g.put(api.Node{Kind: api.TTime})
	}
	n := api.Node{A: g.expression(t.Kids[0], s)}
	switch t.Kind {
	case api.ECall:
		n.Kind = t.N
	case api.ENeg:
		n.Kind = api.TNeg
	case api.EPow:
		n.Kind, n.N = api.TPow, t.N
	default:
		n.Kind, n.B = operator(t.Kind), g.expression(t.Kids[1], s)
	}
	return g.put(n)
}

func (g *graph) reference(f found) int {
	if f.kind == api.IParam {
		return g.put(api.Node{Kind: api.TConst, Num: f.number, Dim: f.dim})
	}
	return g.variable(f.variable(), 0)
}

// operator is the node's kind of a tree with two operands.
func operator(kind int) int {
	switch kind {
	case api.EAdd:
		return api.TAdd
	case api.ESub:
		return api.TSub
	case api.EMul:
		return api.TMul
	}
	return api.TDiv
}
