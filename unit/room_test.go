package unit_test

import (
	"testing"

	"orrery/api"
)

const most = 1 << 62

// TestNoRoomAtANode has numbers without room in dimensions, in unknowns' exponents, and in what a rule asks for.
func TestNoRoomAtANode(t *testing.T) {
	u := unknown()
	for what, put := range map[string]func(g *graph) int{
		"a square":              func(g *graph) int { return g.pow(g.num(1, dim(most)), 2) },
		"a product":             func(g *graph) int { a := g.num(1, at(6, q(most, 1))); return g.mul(a, a) },
		"a quotient":            func(g *graph) int { return g.op(api.TDiv, g.num(1, dim(most)), g.num(1, dim(-most))) },
		"a root":                func(g *graph) int { return g.of(api.TSqrt, g.num(1, at(5, q(1, most)))) },
		"a derivative":          func(g *graph) int { return g.der(2, 3) },
		"one of an unknown":     func(g *graph) int { return g.of(api.TNeg, g.der(0, 3)) },
		"an unknown's power":    func(g *graph) int { return g.pow(g.much(g.x(0)), 8) },
		"an unknown's product":  func(g *graph) int { a := g.pow(g.much(g.x(1)), 4); return g.mul(a, a) },
		"an unknown's quotient": func(g *graph) int { a := g.pow(g.much(g.x(1)), 4); return g.op(api.TDiv, g.pow(a, -1), a) },
		"an unknown's root": func(g *graph) int {
			a := g.x(1)
			for range 63 {
				a = g.of(api.TSqrt, a)
			}
			return a
		},
		"a rule": func(g *graph) int { return g.sub(g.num(1, dim(most)), g.num(1, dim(-most))) },
		"a rule of unknowns": func(g *graph) int {
			a := g.pow(g.much(g.x(1)), 4)
			return g.op(api.TAdd, a, g.pow(a, -1))
		},
	} {
		var g graph
		wrong := g.sub(g.num(1, dim(1)), g.num(1, dim(2))) // a rule that can't hold, ahead of it
		n := put(&g)
		k := g.ask([]api.Dim{u, u, dim(1)}, n)
		k.second = dim(0, most)
		checkInfer(t, k, nil, api.ErrOver)
		k.eqs = []int{wrong, n}
		checkInfer(t, k, nil, api.ErrOver)
		k.eqs = []int{wrong}
		checkInfer(t, k, nil, api.ErrUnit)
		if t.Failed() {
			t.Fatal(what)
		}
	}
}

// TestJustRoom: there is room for these.
func TestJustRoom(t *testing.T) {
	var g graph
	x := g.x(0)
	eq := g.sub(g.pow(g.much(x), 4), g.num(1, dim(most, 0, -most)))
	checkInfer(t, g.ask([]api.Dim{unknown()}, eq), []api.Dim{dim(1, 0, -1)}, api.OK)
	full := g.sub(g.mul(x, g.num(1, dim(top, -top))), g.num(1, plain()))
	checkInfer(t, g.ask([]api.Dim{unknown()}, full), []api.Dim{dim(-top, top)}, api.OK)
	k := g.ask([]api.Dim{unknown()}, g.sub(g.der(0, 3), g.num(1, plain())))
	k.second = dim(top / 7)
	checkInfer(t, k, []api.Dim{dim(3 * (top / 7))}, api.OK)
	none := g.mul(g.num(0, dim(top)), g.num(0, dim(-top)))
	checkInfer(t, g.ask([]api.Dim{unknown()}, g.sub(x, none)), []api.Dim{plain()}, api.OK)
	free := g.sub(g.num(0, dim(top)), g.num(1, dim(-top))) // a / b would have none, but nobody asks for it
	checkInfer(t, g.ask([]api.Dim{unknown()}, g.sub(free, x)), []api.Dim{dim(-top)}, api.OK)
}

// TestNoRoomInARule: each rule in its turn, ErrUnit or ErrOver.
func TestNoRoomInARule(t *testing.T) {
	u := unknown()
	for what, put := range map[string]func(g *graph) int{
		"freed, the dimension": func(g *graph) int { // x is (most); then x^2
			g.sub(g.x(0), g.num(1, dim(most)))
			return g.sub(g.pow(g.x(0), 2), g.x(1))
		},
		"freed, an unknown": func(g *graph) int { // x is y^most; then x^2
			g.sub(g.x(0), g.pow(g.much(g.x(1)), 4))
			return g.of(api.TSin, g.mul(g.pow(g.x(0), 2), g.x(2)))
		},
		"divided, the dimension": func(g *graph) int {
			return g.sub(g.pow(g.x(0), 2), g.num(1, at(4, q(1, most))))
		},
		"divided, an unknown": func(g *graph) int {
			y := g.of(api.TSqrt, g.of(api.TSqrt, g.x(1)))
			return g.sub(g.pow(g.much(g.x(0)), 4), y)
		},
	} {
		var g graph
		put(&g)
		checkInfer(t, g.askAll(u, u, u), nil, api.ErrOver)
		g.sub(g.num(1, dim(1)), g.num(1, dim(2))) // one that can't hold, behind it
		checkInfer(t, g.askAll(u, u, u), nil, api.ErrOver)
		g = graph{}
		g.sub(g.num(1, dim(1)), g.num(1, dim(2))) // and ahead of it
		put(&g)
		checkInfer(t, g.askAll(u, u, u), nil, api.ErrUnit)
		if t.Failed() {
			t.Fatal(what)
		}
	}
}

// TestNoRoomAtTheEnd: all rules hold, but what is told has no room, or what is met on the way to it.
func TestNoRoomAtTheEnd(t *testing.T) {
	u := unknown()
	var g graph
	x, y, z := g.x(0), g.x(1), g.x(2)
	rule := g.of(api.TSin, g.mul(x, g.pow(y, 64)))
	told := g.sub(y, g.num(1, dim(0, 0, most)))
	checkInfer(t, g.ask([]api.Dim{u, u, u}, rule, told), nil, api.ErrOver)
	wrong := g.sub(g.num(1, dim(1)), g.num(1, dim(2)))
	checkInfer(t, g.ask([]api.Dim{u, u, u}, rule, told, wrong), nil, api.ErrUnit) // the end comes behind all rules

	way := g.sub(g.mul(x, g.mul(y, z)), g.num(1, dim(0, 0, -most))) // dimension, y and z: two of them have no room
	other := g.sub(z, g.num(1, dim(0, 0, -most)))
	checkInfer(t, g.ask([]api.Dim{u, u, u}, way, told, other), nil, api.ErrOver)

	back := g.sub(g.mul(x, g.mul(y, z)), g.num(1, dim(0, 0, most))) // here they have, as they stand
	checkInfer(t, g.ask([]api.Dim{u, u, u}, back, told, other), []api.Dim{dim(0, 0, most), dim(0, 0, most), dim(0, 0, -most)}, api.OK)
}

// TestRisingOrder: of unknowns with room in one order alone, in that order.
func TestRisingOrder(t *testing.T) {
	u := unknown()
	for _, c := range []struct {
		dims [3]int64 // of y, z and w; x is 1 over all of them
		e    api.Errno
	}{
		{[3]int64{top, -top, top}, api.OK},
		{[3]int64{top, top, -top}, api.ErrOver},
		{[3]int64{-top, top, top}, api.OK},
		{[3]int64{-top, -top, top}, api.ErrOver},
	} {
		var g graph
		var eqs []int
		x, w, z, y := g.x(0), g.x(3), g.x(2), g.x(1)
		eqs = append(eqs, g.of(api.TSin, g.mul(x, g.mul(w, g.mul(y, z)))))
		for i, v := range []int{w, y, z} {
			eqs = append(eqs, g.sub(v, g.num(1, dim([3]int64{c.dims[2], c.dims[0], c.dims[1]}[i]))))
		}
		want := []api.Dim{dim(-c.dims[0] - c.dims[1] - c.dims[2]), dim(c.dims[0]), dim(c.dims[1]), dim(c.dims[2])}
		if c.e != api.OK {
			want = nil
		}
		checkInfer(t, g.ask([]api.Dim{u, u, u, u}, eqs...), want, c.e)
	}
}

// TestToldWithoutRoom: what is told by a rule may have no room where a node makes more of it, once it is given (where the unknown had).
func TestToldWithoutRoom(t *testing.T) {
	var g graph
	x := g.x(0)
	k := g.ask([]api.Dim{unknown()}, g.sub(x, g.num(1, dim(most))), g.pow(x, 2))
	k.nodes = g.nodes
	checkInfer(t, k, []api.Dim{dim(most)}, api.OK)
	checkInfer(t, question{k.nodes, k.eqs, []api.Dim{dim(most)}, []bool{true}, k.second}, nil, api.ErrOver)
}
