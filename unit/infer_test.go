package unit_test

import (
	"testing"

	"orrery/api"
)

// TestExamples are the rows of the chapter's table.
func TestExamples(t *testing.T) {
	checkText(t, "unit m; unit s; unit v = m / s;", "m 0:1/1, s 1:1/1, v 0:1/1 1:-1/1", api.OK)

	names, dims := bases()
	half := plain()
	half.E[0], half.E[1] = q(1, 2), q(-1, 1)
	checkOf(t, pow(div(name("m"), pow(name("s"), 2, 1)), 1, 2), names, dims, is(half))

	var g graph
	fast := g.sub(g.der(0, 1), g.x(1))
	checkInfer(t, g.ask([]api.Dim{unknown(), dim(1, -1)}, fast), []api.Dim{dim(1), dim(1, -1)}, api.OK)

	g = graph{}
	sum := g.op(api.TAdd, g.sub(g.x(0), g.x(1)), g.x(2))
	checkInfer(t, g.ask([]api.Dim{dim(1), unknown(), dim(0, 1)}, sum), nil, api.ErrUnit)

	g = graph{}
	sine := g.sub(g.of(api.TSin, g.x(0)), g.num(0, plain()))
	checkInfer(t, g.ask([]api.Dim{dim(1)}, sine), nil, api.ErrUnit)

	g = graph{}
	square := g.sub(g.mul(g.x(0), g.x(0)), g.x(1))
	checkInfer(t, g.ask([]api.Dim{unknown(), unknown()}, square), []api.Dim{plain(), plain()}, api.OK)
}

// TestDimensionsOfNodes asks of one node of each kind: its dimension is that of a variable beside it.
func TestDimensionsOfNodes(t *testing.T) {
	a, b, half := dim(2, 1), dim(0, 4, 0, 1), plain()
	half.E[0], half.E[1] = q(1, 1), q(1, 2)
	for what, c := range map[string]struct {
		put  func(g *graph) int
		want api.Dim
	}{
		"TConst":       {func(g *graph) int { return g.num(5, dim(1, 2, 3, 4, 5, 6, 7)) }, dim(1, 2, 3, 4, 5, 6, 7)},
		"TVar":         {func(g *graph) int { return g.x(1) }, a},
		"der":          {func(g *graph) int { return g.der(1, 1) }, dim(2, 0)},
		"der 6":        {func(g *graph) int { return g.der(1, 6) }, dim(2, -5)},
		"TTime":        {func(g *graph) int { return g.time() }, dim(0, 1)},
		"TAdd":         {func(g *graph) int { return g.op(api.TAdd, g.x(1), g.x(1)) }, a},
		"TSub":         {func(g *graph) int { return g.sub(g.x(1), g.x(1)) }, a},
		"TAdd, free a": {func(g *graph) int { return g.op(api.TAdd, g.num(0, b), g.x(1)) }, a},
		"TSub, free a": {func(g *graph) int { return g.sub(g.num(0, b), g.x(1)) }, a},
		"TAdd, free b": {func(g *graph) int { return g.op(api.TAdd, g.x(1), g.num(0, b)) }, a},
		"TSub, free b": {func(g *graph) int { return g.sub(g.x(1), g.num(0, b)) }, a},
		"TSub, both":   {func(g *graph) int { return g.sub(g.num(0, a), g.num(0, b)) }, b},
		"TMul":         {func(g *graph) int { return g.mul(g.x(1), g.x(2)) }, dim(2, 5, 0, 1)},
		"TDiv":         {func(g *graph) int { return g.op(api.TDiv, g.x(1), g.x(2)) }, dim(2, -3, 0, -1)},
		"TNeg":         {func(g *graph) int { return g.of(api.TNeg, g.x(2)) }, b},
		"TPow":         {func(g *graph) int { return g.pow(g.x(2), -3) }, dim(0, -12, 0, -3)},
		"TPow 0":       {func(g *graph) int { return g.pow(g.x(2), 0) }, plain()},
		"TSqrt":        {func(g *graph) int { return g.of(api.TSqrt, g.x(1)) }, half},
		"TExp":         {func(g *graph) int { return g.of(api.TExp, g.x(3)) }, plain()},
		"TLog":         {func(g *graph) int { return g.of(api.TLog, g.x(3)) }, plain()},
		"TSin":         {func(g *graph) int { return g.of(api.TSin, g.x(3)) }, plain()},
		"TCos":         {func(g *graph) int { return g.of(api.TCos, g.x(3)) }, plain()},
		"TAtan":        {func(g *graph) int { return g.of(api.TAtan, g.x(3)) }, plain()},
		"TAtan, free":  {func(g *graph) int { return g.of(api.TAtan, g.num(0, b)) }, plain()},
		"0 times":      {func(g *graph) int { return g.mul(g.num(0, a), g.x(2)) }, dim(2, 5, 0, 1)},
	} {
		var g graph
		n := c.put(&g)
		vars := []api.Dim{unknown(), a, b, plain(), unknown()}
		checkInfer(t, g.ask(vars, g.sub(g.x(0), n)), []api.Dim{c.want, a, b, plain(), plain()}, api.OK)
		checkInfer(t, g.ask(vars, g.sub(n, g.x(0))), []api.Dim{c.want, a, b, plain(), plain()}, api.OK)
		vars[0] = c.want
		checkInfer(t, g.ask(vars, g.sub(n, g.x(0))), []api.Dim{c.want, a, b, plain(), plain()}, api.OK)
		vars[0].E[4] = q(1, 3)
		if k := g.ask(vars, g.sub(n, g.x(0))); checkByWords(t, k) != api.ErrUnit {
			t.Error(what)
		}
	}
}

func functions() []int { return []int{api.TExp, api.TLog, api.TSin, api.TCos, api.TAtan} }

// TestFree has noughts, which fit beside all; what is made of them does not.
func TestFree(t *testing.T) {
	m := []api.Dim{dim(1), unknown()}
	fits := []api.Dim{dim(1), plain()}
	for _, kind := range []int{api.TAdd, api.TSub} {
		for _, d := range []api.Dim{plain(), dim(1), dim(0, 0, 5)} {
			var g graph
			zero, x := g.num(0, d), g.x(0)
			checkInfer(t, g.ask(m, g.op(kind, zero, x), g.op(kind, x, zero), g.op(kind, zero, zero)), fits, api.OK)
			one := g.num(1, d)
			for _, eq := range []int{g.op(kind, one, x), g.op(kind, x, one)} {
				if e := checkByWords(t, g.ask(m, eq)); (e == api.OK) != (d == dim(1)) {
					t.Error(kind, d, e)
				}
			}
		}
		var g graph
		zero, x := g.num(0, plain()), g.x(0)
		for _, same := range []int{g.of(api.TNeg, zero), g.op(api.TAdd, zero, zero), g.mul(zero, zero), g.pow(zero, 1)} {
			checkInfer(t, g.ask(m, g.op(kind, same, x)), nil, api.ErrUnit)
			checkInfer(t, g.ask(m, g.op(kind, x, same)), nil, api.ErrUnit)
		}
		checkInfer(t, g.ask(m, g.op(kind, x, g.put(api.Node{Kind: api.TConst, Num: q(1, top), Dim: plain()}))), nil, api.ErrUnit)
	}
	for _, kind := range functions() {
		var g graph
		zero, one := g.num(0, dim(1)), g.num(1, dim(1))
		checkInfer(t, g.ask(m, g.of(kind, zero)), fits, api.OK)
		checkInfer(t, g.ask(m, g.of(kind, one)), nil, api.ErrUnit)
		checkInfer(t, g.ask(m, g.of(kind, g.of(api.TNeg, zero))), nil, api.ErrUnit)
		checkInfer(t, g.ask(m, g.of(kind, g.sub(zero, zero))), nil, api.ErrUnit)
		checkInfer(t, g.ask(m, g.of(kind, g.x(0))), nil, api.ErrUnit)
		ratio := g.op(api.TDiv, one, g.x(1))
		checkInfer(t, g.ask(m, g.of(kind, ratio)), []api.Dim{dim(1), dim(1)}, api.OK)
	}
}

// TestNeeded: what no equation needs has no rule, and need not have room.
func TestNeeded(t *testing.T) {
	var g graph
	x, y := g.x(0), g.x(1)
	wrong := g.sub(g.num(1, dim(1)), g.num(1, dim(2)))
	over := g.pow(g.num(1, dim(top)), 2)
	free := g.sub(x, y)
	fits := g.sub(y, g.num(1, dim(4)))
	vars := []api.Dim{unknown(), unknown()}
	checkInfer(t, g.ask(vars, fits), []api.Dim{plain(), dim(4)}, api.OK)
	checkInfer(t, g.ask(vars, fits, free), []api.Dim{dim(4), dim(4)}, api.OK)
	checkInfer(t, g.ask(vars, free), []api.Dim{plain(), plain()}, api.OK)
	checkInfer(t, g.ask(vars, fits, wrong), nil, api.ErrUnit)
	checkInfer(t, g.ask(vars, fits, over), nil, api.ErrOver)
	checkInfer(t, g.ask(vars, wrong, over), nil, api.ErrOver)
	checkInfer(t, g.ask(vars, g.mul(g.of(api.TNeg, wrong), x)), nil, api.ErrUnit) // deep within
	checkInfer(t, g.ask(vars, g.pow(wrong, 0)), nil, api.ErrUnit)
	checkInfer(t, g.ask(vars, g.mul(g.num(0, plain()), wrong)), nil, api.ErrUnit)
}

// TestRules has several of them, of the same unknowns and of others.
func TestRules(t *testing.T) {
	u := unknown()
	var g graph
	x, y, z := g.x(0), g.x(1), g.x(2)
	m, s := g.num(1, dim(1)), g.num(1, dim(0, 1))
	third := plain()
	third.E[0], third.E[1] = q(1, 3), q(1, 3)
	for what, c := range map[string]struct {
		eqs  []int
		want []api.Dim // none: ErrUnit
	}{
		"one told by the next":      {[]int{g.sub(x, y), g.sub(y, z), g.sub(z, m)}, []api.Dim{dim(1), dim(1), dim(1)}},
		"and turned round":          {[]int{g.sub(m, x), g.sub(z, y), g.sub(y, x)}, []api.Dim{dim(1), dim(1), dim(1)}},
		"the same rule":             {[]int{g.sub(x, m), g.sub(x, m), g.sub(m, x), g.op(api.TAdd, x, m)}, []api.Dim{dim(1), plain(), plain()}},
		"two that are not":          {[]int{g.sub(x, m), g.sub(x, s)}, nil},
		"behind others":             {[]int{g.sub(x, y), g.sub(y, m), g.sub(z, s), g.sub(x, z)}, nil},
		"a square":                  {[]int{g.sub(g.mul(x, x), m)}, []api.Dim{at(0, q(1, 2)), plain(), plain()}},
		"a root":                    {[]int{g.sub(g.of(api.TSqrt, y), m)}, []api.Dim{plain(), dim(2), plain()}},
		"none owns the last":        {[]int{g.sub(g.mul(x, y), m), g.sub(g.mul(y, z), s)}, []api.Dim{dim(1, -1), dim(0, 1), plain()}},
		"the least is owned":        {[]int{g.of(api.TSin, g.mul(z, g.mul(g.pow(y, 3), g.mul(m, s))))}, []api.Dim{plain(), lessThird(), plain()}},
		"two of them, two products": {[]int{g.sub(g.mul(x, y), m), g.sub(g.op(api.TDiv, x, y), s)}, []api.Dim{halves(1), halves(-1), plain()}},
		"freed until none is left":  {[]int{g.sub(g.mul(x, y), m), g.sub(g.mul(y, x), m), g.sub(g.pow(g.mul(x, y), 3), g.pow(m, 3))}, []api.Dim{dim(1), plain(), plain()}},
		"freed, and wrong":          {[]int{g.sub(g.mul(x, y), m), g.sub(g.pow(g.mul(x, y), 3), m)}, nil},
		"of itself":                 {[]int{g.sub(x, x), g.sub(g.mul(y, z), g.mul(z, y))}, []api.Dim{plain(), plain(), plain()}},
		"of itself, times m":        {[]int{g.sub(x, g.mul(x, m))}, nil},
		"all three at once":         {[]int{g.sub(g.mul(x, g.mul(y, z)), g.mul(m, s)), g.sub(x, y), g.sub(y, z)}, []api.Dim{third, third, third}},
		"the square of a sum":       {[]int{g.pow(g.op(api.TAdd, g.mul(x, m), y), 2), g.sub(y, s)}, []api.Dim{dim(-1, 1), dim(0, 1), plain()}},
		"a derivative of unknowns":  {[]int{g.sub(g.der(0, 2), g.der(1, 1)), g.sub(g.der(1, 3), m)}, []api.Dim{dim(1, 4), dim(1, 3), plain()}},
		"of its own derivative":     {[]int{g.sub(g.der(0, 1), x)}, nil},
		"time":                      {[]int{g.sub(x, g.time()), g.of(api.TCos, g.mul(y, g.time()))}, []api.Dim{dim(0, 1), dim(0, -1), plain()}},
	} {
		k := g.ask([]api.Dim{u, u, u}, c.eqs...)
		if c.want == nil {
			checkInfer(t, k, nil, api.ErrUnit)
		} else {
			checkInfer(t, k, c.want, api.OK)
		}
		if t.Failed() {
			t.Fatal(what)
		}
	}
}

// lessThird is (m s)^(-1/3).
func lessThird() api.Dim {
	d := plain()
	d.E[0], d.E[1] = q(-1, 3), q(-1, 3)
	return d
}

// halves is (m s^sign)^(1/2).
func halves(sign int64) api.Dim {
	d := plain()
	d.E[0], d.E[1] = q(1, 2), q(sign, 2)
	return d
}

// TestOrderOfRules: equations tell which nodes are needed, but nodes tell the order.
func TestOrderOfRules(t *testing.T) {
	var g graph
	x, y := g.x(0), g.x(1)
	both := g.of(api.TSin, g.mul(x, y))
	vars := []api.Dim{unknown(), unknown()}
	checkInfer(t, g.ask(vars, both), []api.Dim{plain(), plain()}, api.OK)
	known := g.sub(y, g.num(1, dim(1)))
	for _, eqs := range [][]int{{both, known}, {known, both}} {
		checkInfer(t, g.ask(vars, eqs...), []api.Dim{dim(-1), dim(1)}, api.OK)
	}
}

// TestGivenAndNot: given ones stay as they are, others are told, or plain.
func TestGivenAndNot(t *testing.T) {
	var g graph
	eq := g.sub(g.x(1), g.x(3))
	d := dim(1, 2, 3, 4, 5, 6, 7)
	checkInfer(t, g.ask([]api.Dim{d, d, unknown(), unknown(), unknown()}, eq), []api.Dim{d, d, plain(), d, plain()}, api.OK)
	checkInfer(t, g.ask([]api.Dim{d, unknown(), unknown(), d, unknown()}, eq), []api.Dim{d, d, plain(), d, plain()}, api.OK)
	checkInfer(t, g.ask([]api.Dim{d, unknown(), unknown(), unknown(), d}, eq), []api.Dim{d, plain(), plain(), plain(), d}, api.OK)
	checkInfer(t, g.ask([]api.Dim{d, d, d, plain(), d}, eq), nil, api.ErrUnit)
}
