package symb

import (
	"orrery/api"
	"orrery/unit"
)

// graph is one that is being built. No two of its nodes are the same.
type graph struct {
	nodes []api.Node
	total []bool           // of each node: it has a value, whatever the variables are
	place map[api.Node]int // of each node that is there, by what it is: its number
}

// built is the graph of all that some roots need, and what they became in it.
func built(nodes []api.Node, roots []int) (*graph, []int) {
	g := &graph{place: map[api.Node]int{}}
	became := make([]int, len(nodes))
	for i, needed := range neededBy(nodes, roots) {
		if needed {
			became[i] = g.put(onto(nodes[i], became))
		}
	}
	return g, at(roots, became)
}

// put makes a node, whose operands are there, and whose fields are zero that its kind does not need: it is a number, if it can be, else something plainer, else itself.
func (g *graph) put(n api.Node) int {
	if n.Kind == api.TConst {
		return g.number(n.Num)
	}
	if num, ok := g.worth(n); ok {
		return g.number(num)
	}
	if place, ok := g.plainer(n); ok {
		return place
	}
	return g.found(n)
}

// found is where a node is, just as it stands: behind all others, if it is new.
func (g *graph) found(n api.Node) int {
	if place, ok := g.place[n]; ok {
		return place
	}
	g.place[n] = len(g.nodes)
	g.total = append(g.total, g.isTotal(n))
	g.nodes = append(g.nodes, n)
	return len(g.nodes) - 1
}

func (g *graph) isTotal(n api.Node) bool {
	switch n.Kind {
	case api.TDiv, api.TSqrt, api.TLog:
		return false
	case api.TPow:
		return n.N >= 0 && g.total[n.A]
	}
	switch operands(n.Kind) {
	case 2:
		return g.total[n.A] && g.total[n.B]
	case 1:
		return g.total[n.A]
	}
	return true
}

func (g *graph) number(num api.Rat) int {
	return g.found(api.Node{Kind: api.TConst, Num: num, Dim: unit.Plain()})
}

func (g *graph) whole(n int) int { return g.number(whole(n)) }

func (g *graph) pair(kind, a, b int) int { return g.put(api.Node{Kind: kind, A: a, B: b}) }

func (g *graph) of(kind, a int) int { return g.put(api.Node{Kind: kind, A: a}) }

func (g *graph) pow(a, n int) int { return g.put(api.Node{Kind: api.TPow, A: a, N: n}) }

// is tells whether a node is a whole number.
func (g *graph) is(place, n int) bool {
	node := g.nodes[place]
	return node.Kind == api.TConst && node.Num == whole(n)
}

func whole(n int) api.Rat { return api.Rat{N: int64(n), D: 1} }
