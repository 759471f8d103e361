package symb

import "orrery/api"

// plainer is another node that has a value just where n has one, and the same, if such a one is known.
func (g *graph) plainer(n api.Node) (int, bool) {
	switch n.Kind {
	case api.TAdd:
		return g.plainerSum(n.A, n.B)
	case api.TSub:
		return g.plainerDifference(n.A, n.B)
	case api.TMul:
		return g.plainerProduct(n.A, n.B)
	case api.TDiv:
		return n.A, g.is(n.B, 1)
	case api.TNeg:
		a := g.nodes[n.A]
		return a.A, a.Kind == api.TNeg
	case api.TPow:
		return g.plainerPower(n.A, n.N)
	}
	return 0, false
}

func (g *graph) plainerSum(a, b int) (int, bool) {
	if g.is(a, 0) {
		return b, true
	}
	return a, g.is(b, 0)
}

func (g *graph) plainerDifference(a, b int) (int, bool) {
	switch {
	case g.is(b, 0):
		return a, true
	case g.is(a, 0):
		return g.of(api.TNeg, b), true
	case a == b && g.total[a]:
		return g.whole(0), true
	}
	return 0, false
}

func (g *graph) plainerProduct(a, b int) (int, bool) {
	switch {
	case g.is(a, 1):
		return b, true
	case g.is(b, 1):
		return a, true
	case g.is(a, 0) && g.total[b], g.is(b, 0) && g.total[a]:
		return g.whole(0), true
	case g.is(a, -1):
		return g.of(api.TNeg, b), true
	case g.is(b, -1):
		return g.of(api.TNeg, a), true
	}
	return 0, false
}

func (g *graph) plainerPower(a, n int) (int, bool) {
	switch {
	case n == 1:
		return a, true
	case n == 0 && g.total[a]:
		return g.whole(1), true
	}
	return 0, false
}
