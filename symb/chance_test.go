package symb_test

import (
	"math"
	"math/rand"
	"testing"

	"orrery/api"
)

// drawn makes graphs by chance.
type drawn struct{ *rand.Rand }

func draw(seed int64) drawn { return drawn{rand.New(rand.NewSource(seed))} }

func pick[T any](d drawn, from ...T) T { return from[d.Intn(len(from))] }

// number is often one that some rule looks for; wide ones often have no room for what is made of them.
func (d drawn) number(wide bool) api.Rat {
	if wide && d.Intn(3) == 0 {
		return pick(d, q(math.MaxInt64, 1), q(-math.MaxInt64, 2), q(1<<62, 1), q(1, 1<<62), q(1, math.MaxInt64), q(1<<32, 3))
	}
	return pick(d, q(0, 1), q(0, 1), q(1, 1), q(1, 1), q(-1, 1), q(-1, 1), q(2, 1), q(1, 2), q(-3, 2), q(5, 1))
}

func (d drawn) exponent() int {
	return pick(d, 0, 0, 1, 1, -1, -1, 2, 2, 3, -2, 64, -64, 63, -63, 5)
}

// manner is how graphs are drawn.
type manner struct {
	size   int
	plain  int   // so many of ten nodes have no operands
	kinds  []int // of nodes that have some
	wide   bool
	orders int // variables' derivatives go to one below it
}

func (d drawn) manner() manner {
	all := kinds()[2:14] // TAdd to TAtan
	m := manner{size: 1 + d.Intn(pick(d, 4, 12, 40)), plain: 2 + d.Intn(4), kinds: all, wide: d.Intn(3) == 0, orders: pick(d, 1, 2, 3, 7)}
	switch d.Intn(4) {
	case 0:
		m.kinds = []int{api.TAdd, api.TSub, api.TMul, api.TNeg}
	case 1:
		m.kinds = []int{api.TSub, api.TMul, api.TPow, pick(d, all...)}
	}
	return m
}

func (d drawn) leaf(m manner) api.Node {
	switch d.Intn(5) {
	case 0, 1:
		n := num(d.number(m.wide))
		if d.Intn(3) == 0 {
			n.Dim = dim(q(d.Int63n(3), 1), q(1, 2))
		}
		return n
	case 2:
		return api.Node{Kind: api.TTime}
	}
	return variable(d.Intn(3), d.Intn(m.orders))
}

// behind is a node whose operands are often some of the last ones, and often the same.
func (d drawn) behind(m manner, nodes []api.Node) api.Node {
	near := func() int { return max(len(nodes)-1-d.Intn(len(nodes)), len(nodes)-1-d.Intn(len(nodes))) }
	n := api.Node{Kind: pick(d, m.kinds...), A: near()}
	if needs(n.Kind) > 1 {
		n.B = pick(d, n.A, near(), near(), near())
	}
	if n.Kind == api.TPow {
		n.N = d.exponent()
	}
	return n
}

func (d drawn) graph() asked {
	m := d.manner()
	var g asked
	for len(g.nodes) < m.size {
		if len(g.nodes) == 0 || d.Intn(10) < m.plain {
			g.nodes = append(g.nodes, d.leaf(m))
		} else {
			g.nodes = append(g.nodes, d.behind(m, g.nodes))
		}
	}
	g.roots = []int{m.size - 1}
	for d.Intn(3) > 0 {
		g.roots = append(g.roots, d.Intn(m.size))
	}
	if d.Intn(40) == 0 {
		g.roots = nil
	}
	return g
}

// broken has something that perhaps may not be.
func (d drawn) broken(g asked) asked {
	g = g.copied()
	n := &g.nodes[d.Intn(len(g.nodes))]
	odd := pick(d, -1, 0, len(g.nodes), d.Intn(len(g.nodes)), 7, 16, 65, -65, math.MinInt)
	switch d.Intn(8) {
	case 0:
		n.Kind = odd
	case 1:
		n.A = odd
	case 2:
		n.B = odd
	case 3:
		n.N = odd
	case 4:
		n.Key = pick(d, api.Key{V: odd}, api.Key{K: odd})
	case 5:
		n.Num = pick(d, api.Rat{}, q(1, 0), q(2, 4), q(math.MinInt64, 1), q(4, 3))
	case 6:
		n.Dim.E[d.Intn(7)] = pick(d, api.Rat{}, q(2, 4), q(1, 1))
	case 7:
		g.roots = append(g.roots, odd)
	}
	return g
}

// Graphs by chance are what the document's words make of them.
func TestByChance(t *testing.T) {
	told, none := 0, 0
	for seed := range int64(4000) {
		d := draw(seed)
		g := d.graph()
		if d.Intn(5) == 0 {
			g = d.broken(g)
		}
		_, e := built(t, g)
		if _, second := diffed(t, g); e == api.OK && second == api.OK {
			told++
		} else if e == api.OK {
			none++
		}
		for root := -1; root <= len(g.nodes); root += 1 + d.Intn(5) {
			usedBy(t, g, root)
		}
	}
	if told < 2000 || none < 100 {
		t.Error(told, none)
	}
}
