package symb

import "orrery/api"

// derivatives makes those of all nodes that some roots need, behind what is there. What is answered has an element for each node that was there; 0, if it is not needed.
func derivatives(g *graph, roots []int) ([]int, api.Errno) {
	rates := make([]int, len(g.nodes))
	for i, needed := range neededBy(g.nodes, roots) {
		if !needed {
			continue
		}
		if !hasRate(g.nodes[i]) {
			return nil, api.ErrLong
		}
		rates[i] = g.rate(i, rates)
		if len(g.nodes) > api.MaxNodes {
			return nil, api.ErrLong
		}
	}
	return rates, api.OK
}

// hasRate tells whether what a node's derivative is made of may be.
func hasRate(n api.Node) bool {
	switch n.Kind {
	case api.TVar:
		return n.Key.K < api.MaxDiff
	case api.TPow:
		return n.N > -api.MaxPower
	}
	return true
}

// rate makes the derivative of the node v, by those of its operands. Calls in one expression are made from the left, inner ones first: that is the order in which nodes must be put.
func (g *graph) rate(v int, rates []int) int {
	n := g.nodes[v]
	switch operands(n.Kind) {
	case 2:
		return g.rateOfTwo(v, rates[n.A], rates[n.B])
	case 1:
		return g.rateOfOne(v, rates[n.A])
	}
	switch n.Kind {
	case api.TVar:
		return g.put(api.Node{Kind: api.TVar, Key: api.Key{V: n.Key.V, K: n.Key.K + 1}})
	case api.TTime:
		return g.whole(1)
	}
	return g.whole(0)
}

func (g *graph) rateOfTwo(v, da, db int) int {
	kind, a, b := g.nodes[v].Kind, g.nodes[v].A, g.nodes[v].B
	switch kind {
	case api.TMul:
		return g.pair(api.TAdd, g.pair(api.TMul, da, b), g.pair(api.TMul, a, db))
	case api.TDiv:
		return g.pair(api.TDiv, g.pair(api.TSub, da, g.pair(api.TMul, v, db)), b)
	}
	return g.pair(kind, da, db) // of a sum, and of a difference
}

func (g *graph) rateOfOne(v, da int) int {
	a := g.nodes[v].A
	switch g.nodes[v].Kind {
	case api.TNeg:
		return g.of(api.TNeg, da)
	case api.TPow:
		return g.rateOfPower(a, g.nodes[v].N, da)
	case api.TSqrt:
		return g.pair(api.TDiv, da, g.pair(api.TMul, g.whole(2), v))
	case api.TExp:
		return g.pair(api.TMul, v, da)
	case api.TLog:
		return g.pair(api.TDiv, da, a)
	case api.TSin:
		return g.pair(api.TMul, g.of(api.TCos, a), da)
	case api.TCos:
		return g.of(api.TNeg, g.pair(api.TMul, g.of(api.TSin, a), da))
	}
	return g.pair(api.TDiv, da, g.pair(api.TAdd, g.whole(1), g.pow(a, 2))) // TAtan
}

func (g *graph) rateOfPower(a, n, da int) int {
	if n == 0 {
		return g.whole(0)
	}
	return g.pair(api.TMul, g.pair(api.TMul, g.whole(n), g.pow(a, n-1)), da)
}
