package taylor_test

import (
	"testing"

	"orrery/api"
	"orrery/elem"
	"orrery/ival"
	"orrery/taylor"
)

// askRate holds the series of the last operation along the time from a on, which the second variable adds up, against coefficients.
func askRate(t *testing.T, a api.Ival, want box, ops ...op) {
	t.Helper()
	s, x := alongTime(ops...), box{a, point(0)}
	c, e := taylor.Coefs(s, x, len(want))
	if e != api.OK {
		t.Errorf("Coefs(%v, %v, %d): %d", s, x, len(want), e)
		return
	}
	for k, v := range want {
		if c[k+1][1] != ival.Div(v, point(float64(k+1))) {
			t.Errorf("%v on %v: the coefficient %d is %v, want %v by %d", s, a, k+1, c[k+1][1], v, k+1)
		}
	}
}

// TestKinds is P6.1: the series of each kind along the time, by hand. The operation 0 is the time, the operation 1 is 1.
func TestKinds(t *testing.T) {
	square, twice := both(api.TMul, 0, 0), both(api.TAdd, 0, 0)
	askRate(t, point(3), points(5, 0, 0), lit(5, 5))
	askRate(t, point(3), box{iv(5, 6), point(0), point(0)}, lit(5, 6))
	askRate(t, point(3), points(3, 1, 0, 0), variable(0))
	askRate(t, iv(3, 4), box{iv(3, 4), point(1), point(0)}, variable(0))
	askRate(t, point(3), points(12, 7, 1, 0), square, both(api.TAdd, 2, 0))
	askRate(t, point(3), points(6, 5, 1, 0), square, both(api.TSub, 2, 0))
	askRate(t, point(3), points(-6, -5, -1, 0), square, both(api.TSub, 0, 2))
	askRate(t, iv(3, 4), box{iv(-1, 1), point(0), point(0)}, both(api.TSub, 0, 0)) // nobody asks whether both are one
	askRate(t, point(3), points(9, 6, 1, 0), square)
	askRate(t, iv(-1, 2), box{iv(-2, 4), iv(-2, 4), point(1), point(0)}, square)
	askRate(t, point(3), points(-9, -6, -1, 0), square, of(api.TNeg, 2))
	askRate(t, point(2), points(0.5, -0.25, 0.125, -0.0625), both(api.TDiv, 1, 0))
	askRate(t, point(2), points(2, 0, 0), twice, both(api.TAdd, 2, 2), both(api.TDiv, 3, 2))
	askRate(t, iv(1, 2), box{iv(0.5, 1), iv(-1, -0.25), iv(0.125, 1)}, both(api.TDiv, 1, 0))
	askRate(t, point(4), points(2, 0.25, -0x1p-6, 0x1p-9, -5*0x1p-14), of(api.TSqrt, 0))
	askRate(t, iv(4, 16), box{iv(2, 4), iv(0.125, 0.25)}, of(api.TSqrt, 0))
}

// TestPowers is P6.1: N of 0, above 0 and below.
func TestPowers(t *testing.T) {
	askRate(t, point(2), points(1, 0, 0), pow(0, 0))
	askRate(t, iv(-1, 1), box{point(1), point(0), point(0)}, pow(0, 0))
	askRate(t, point(2), points(2, 1, 0), pow(0, 1))
	askRate(t, point(2), points(8, 12, 6, 1, 0, 0), pow(0, 3))
	askRate(t, point(2), points(0.5, -0.25, 0.125, -0.0625), pow(0, -1))
	askRate(t, point(2), points(0.25, -0.25, 3*0x1p-4, -0.125), pow(0, -2))
	askRate(t, point(-2), points(0.25, 0.25, 3*0x1p-4, 0.125), pow(0, -2))
	askRate(t, point(1), points(1, 64, 2016, 41664, 635376), pow(0, 64))
	askRate(t, point(1), points(1, -64, 2080, -45760, 766480), pow(0, -64))
	askRate(t, point(-1), points(1, -64, 2016, -41664, 635376), pow(0, 64))
	askRate(t, iv(1, 2), box{iv(1, 0x1p64), iv(64, 64*0x1p63)}, pow(0, 64))
	askRate(t, iv(1, 2), box{iv(0x1p-64, 1)}, pow(0, -64))
	// A power is a row of products here: of what is around 0 it is wider than a tape's.
	askRate(t, iv(-1, 2), box{iv(-2, 4), iv(-2, 4), point(1)}, pow(0, 2))
	askRate(t, iv(-1, 2), box{iv(-4, 8)}, pow(0, 3))
	// What a power has on its way may be without end.
	askRate(t, point(1e200), box{ival.Div(point(1), iv(greatest, inf))}, pow(0, -2))
	askError(t, "a power without end", alongTime(pow(0, 2)), points(1e200, 0), 1, api.ErrWide)
}

// TestFunctions is P6.1: the kinds beyond roots, by what they are made of.
func TestFunctions(t *testing.T) {
	a := iv(1, 1.5)
	e, s, c := elem.Exp(a), elem.Sin(a), elem.Cos(a)
	half := func(x api.Ival) api.Ival { return ival.Div(x, point(2)) }
	askRate(t, a, box{e, e, half(e)}, of(api.TExp, 0))
	askRate(t, a, box{s, c, ival.Neg(half(s))}, of(api.TSin, 0))
	askRate(t, a, box{c, ival.Neg(s), ival.Neg(half(c))}, of(api.TCos, 0))
	faster := ival.Div(point(1), a)
	askRate(t, a, box{elem.Log(a), faster, ival.Div(ival.Neg(half(faster)), a)}, of(api.TLog, 0))
	divisor := ival.Add(point(1), ival.Mul(a, a))
	faster = ival.Div(point(1), divisor)
	askRate(t, a, box{elem.Atan(a), faster, ival.Div(ival.Neg(half(ival.Mul(faster, ival.Add(a, a)))), divisor)}, of(api.TAtan, 0))
}

// TestSolutions is P6.1 and P6.3: fields whose solutions are known. All is exact in floats but what is divided by 3.
func TestSolutions(t *testing.T) {
	x0, one := variable(0), lit(1, 1)
	for _, c := range []struct {
		name string
		s    api.Tape
		x    float64
		want []float64
	}{
		{"x + t", lastOf(one), 3, []float64{3, 1, 0, 0, 0}},
		{"x by (1 - x t)", lastOf(x0, both(api.TMul, 0, 0)), 2, []float64{2, 4, 8, 16, 32, 64}},
		{"x by (1 - x t), by a power", lastOf(x0, pow(0, 2)), -2, []float64{-2, 4, -8, 16, -32, 64}},
		{"the root of x x + 2 t", lastOf(x0, pow(0, -1)), 1, []float64{1, 1, -0.5, 0.5, -0.625, 0.875}},
		{"the root of x x + 2 t, by a quotient", lastOf(one, x0, both(api.TDiv, 0, 1)), 1, []float64{1, 1, -0.5, 0.5, -0.625, 0.875}},
		{"the square of the root of x and t / 2", lastOf(x0, of(api.TSqrt, 0)), 4, []float64{4, 2, 0.25, 0, 0, 0}},
	} {
		got, e := taylor.Coefs(c.s, points(c.x), len(c.want)-1)
		if e != api.OK {
			t.Errorf("%s: %d", c.name, e)
			continue
		}
		for k, v := range c.want {
			if !ival.Has(got[k][0], v) || ival.Wid(got[k][0]) > 1e-14 {
				t.Errorf("%s: the coefficient %d is %v, want %g", c.name, k, got[k][0], v)
			}
		}
	}
	turning := api.Tape{Vars: 2, Ops: []op{variable(1), variable(0), of(api.TNeg, 1)}, Outs: []int{0, 2}}
	c, e := taylor.Coefs(turning, points(0, 1), 4)
	if e != api.OK || !sameRows(c[:3], []box{points(0, 1), points(1, 0), points(0, -0.5)}) || !nearlyHeld(c[3][0], -1.0/6) || c[3][1] != point(0) || !nearlyHeld(c[4][1], 1.0/24) {
		t.Error("x' = y, y' = -x:", c, e)
	}
}

// TestOutside is P6.1: at the order 0, as tapes are; where it is wide besides, ErrDomain.
func TestOutside(t *testing.T) {
	for _, a := range (box{iv(0, 1), iv(-1, 0), iv(-1, 1), point(0), iv(0, least), iv(-greatest, greatest)}) {
		askError(t, "a quotient", lastOf(lit(1, 1), variable(0), both(api.TDiv, 0, 1)), box{a}, 1, api.ErrDomain)
		askError(t, "0 divided", lastOf(lit(0, 0), variable(0), both(api.TDiv, 0, 1)), box{a}, 1, api.ErrDomain)
		for _, n := range []int{-1, -2, -64} {
			askError(t, "a power", lastOf(variable(0), pow(0, n)), box{a}, 1, api.ErrDomain)
		}
		askError(t, "a quotient that nobody needs", api.Tape{Vars: 1, Ops: []op{variable(0), both(api.TDiv, 0, 0)}, Outs: []int{0}}, box{a}, 5, api.ErrDomain)
	}
	for _, a := range (box{iv(-1, 1), iv(-least, 4), iv(-2, -1), iv(-1, 0)}) {
		askError(t, "a root", lastOf(variable(0), of(api.TSqrt, 0)), box{a}, 1, api.ErrDomain)
		askError(t, "a logarithm", lastOf(variable(0), of(api.TLog, 0)), box{a}, 1, api.ErrDomain)
	}
	for _, a := range (box{iv(0, 1), point(0), iv(0, least)}) {
		askError(t, "a logarithm", lastOf(variable(0), of(api.TLog, 0)), box{a}, 1, api.ErrDomain)
	}
	// It is asked with the coefficients of the operands here: the square of what is around 0 holds numbers below 0.
	for _, o := range []op{of(api.TSqrt, 3), of(api.TLog, 3), both(api.TDiv, 0, 3), pow(3, -1)} {
		askError(t, "behind a square", lastOf(variable(0), pow(0, 2), lit(1, 1), both(api.TAdd, 1, 2), o), box{iv(-1, 2)}, 1, api.ErrDomain)
	}
}

// TestRootsOfZero is P6.1: of what holds 0 a root has a value, but no coefficient of the order 1.
func TestRootsOfZero(t *testing.T) {
	for _, a := range (box{iv(0, 4), point(0), iv(0, least)}) {
		own := lastOf(variable(0), of(api.TSqrt, 0))
		for order, want := range [][]box{{{a}}, {{a}, {ival.Sqrt(a)}}} {
			if c, e := taylor.Coefs(own, box{a}, order); e != api.OK || !sameRows(c, want) {
				t.Errorf("Coefs(%v, %v, %d) = %v, %d, want %v", own, a, order, c, e, want)
			}
		}
		idle := api.Tape{Vars: 1, Ops: []op{variable(0), of(api.TSqrt, 0), lit(1, 1)}, Outs: []int{2}}
		steady := lastOf(op{Kind: api.TConst, Lit: a}, of(api.TSqrt, 0))
		for _, order := range []int{2, 3, 20} {
			askError(t, "a root", own, box{a}, order, api.ErrDomain)
			askError(t, "a root that nobody needs", idle, box{a}, order, api.ErrDomain)
			askError(t, "a root of a constant", steady, points(1), order, api.ErrDomain)
		}
		if c, e := taylor.Coefs(steady, points(1), 1); e != api.OK || !sameRows(c, []box{points(1), {ival.Sqrt(a)}}) {
			t.Errorf("Coefs(%v, 1, 1) = %v, %d", steady, c, e)
		}
	}
	if c, e := taylor.Coefs(lastOf(variable(0), of(api.TSqrt, 0)), box{iv(0x1p-20, 1)}, 3); e != api.OK || len(c) != 4 {
		t.Error("above 0:", c, e)
	}
}

// TestWide is P6.1: coefficients without end, at the order 0 and above; where x is at the greatest floats it has an end.
func TestWide(t *testing.T) {
	big, x0 := point(1e200), variable(0)
	for _, c := range []struct {
		name  string
		s     api.Tape
		x     api.Ival
		order int // of the coefficient that has no end
	}{
		{"a constant", lastOf(op{Kind: api.TConst, Lit: iv(0, inf)}), point(0), 0},
		{"a constant that nobody needs", api.Tape{Vars: 1, Ops: []op{x0, {Kind: api.TConst, Lit: all}}, Outs: []int{0}}, point(0), 0},
		{"a sum", lastOf(x0, both(api.TAdd, 0, 0)), point(greatest), 0},
		{"a difference", lastOf(x0, both(api.TSub, 0, 0)), iv(-greatest, greatest), 0},
		{"a product", lastOf(x0, both(api.TMul, 0, 0)), big, 0},
		{"a quotient", lastOf(x0, lit(1e-200, 1), both(api.TDiv, 0, 1)), big, 0},
		{"a power whose inner one is rounded to what holds 0", lastOf(x0, pow(0, -2)), iv(0x1p-1000, 1), 0},
		{"a power of e", lastOf(x0, of(api.TExp, 0)), point(710), 0},
		{"a product later", lastOf(x0, lit(1e200, 1e200), both(api.TMul, 0, 1)), point(1), 1},
		{"the second power of a power of e", lastOf(x0, of(api.TExp, 0)), point(400), 1},
		{"an arc whose divisor holds 0", lastOf(x0, of(api.TAtan, 0)), iv(-1, 1), 1},
		{"an arc of no one number", lastOf(x0, of(api.TAtan, 0)), iv(-2, 1), 1},
		{"the last operation", lastOf(lit(1e200, 1e200), x0, both(api.TMul, 0, 1), both(api.TMul, 0, 2)), point(1e-200), 1},
		{"the last operation that nobody needs", api.Tape{Vars: 1, Ops: []op{x0, both(api.TAdd, 0, 0), pow(1, 3)}, Outs: []int{1}}, point(0x1p341), 0},
	} {
		if got, e := taylor.Coefs(c.s, box{c.x}, c.order); e != api.OK || len(got) != c.order+1 {
			t.Errorf("%s: at the order %d: %v, %d", c.name, c.order, got, e)
		}
		for _, order := range []int{c.order + 1, c.order + 2, 20} {
			askError(t, c.name, c.s, box{c.x}, order, api.ErrWide)
		}
	}
	for _, v := range []float64{greatest, -greatest} {
		s := lastOf(lit(v, v))
		if c, e := taylor.Coefs(s, points(v), 2); e != api.OK || !sameRows(c, []box{points(v), points(v), points(0)}) {
			t.Errorf("Coefs(%v, %g, 2) = %v, %d", s, v, c, e)
		}
	}
}

// TestFirstError is P6.1: order by order, and within one operation by operation.
func TestFirstError(t *testing.T) {
	x := box{iv(0, 1), point(0)}
	made := func(ops ...op) api.Tape {
		return api.Tape{Vars: 2, Ops: append([]op{variable(0), variable(1), lit(1e200, 1e200)}, ops...), Outs: []int{2, 2}}
	}
	outside0, wide0 := both(api.TDiv, 1, 0), op{Kind: api.TConst, Lit: all}
	outside1, wide1 := of(api.TSqrt, 0), both(api.TMul, 1, 2)
	for _, c := range []struct {
		first, second op
		want          api.Errno
	}{
		{outside0, wide0, api.ErrDomain},
		{wide0, outside0, api.ErrWide},
		{outside1, wide1, api.ErrDomain},
		{wide1, outside1, api.ErrWide},
		{outside1, wide0, api.ErrWide},
		{wide1, outside0, api.ErrDomain},
		{wide0, outside1, api.ErrWide},
		{outside0, wide1, api.ErrDomain},
	} {
		askError(t, "first error", made(c.first, c.second), x, 2, c.want)
		askError(t, "first error", made(lit(1, 1), c.first, of(api.TNeg, 0), c.second), x, 20, c.want)
	}
	if c, e := taylor.Coefs(made(outside1, wide1), x, 1); e != api.OK || !sameRows(c, []box{x, points(1e200, 1e200)}) {
		t.Error("at the order 1:", c, e)
	}
}

// TestOutsOfFields is P6.1: each variable goes as fast as its own of Outs, in their order, whichever operation that is.
func TestOutsOfFields(t *testing.T) {
	s := api.Tape{Vars: 3, Ops: []op{variable(2), variable(0), lit(7, 7), both(api.TAdd, 0, 1)}, Outs: []int{3, 2, 3}}
	x := points(1, 2, 4)
	if c, e := taylor.Coefs(s, x, 2); e != api.OK || !sameRows(c, []box{x, points(5, 7, 5), points(5, 0, 5)}) {
		t.Error(c, e)
	}
}

// TestCoefsByWords is P6.1 of fields by chance.
func TestCoefsByWords(t *testing.T) {
	r := chance(62)
	seen, kinds := map[api.Errno]int{}, map[int]int{}
	for n := range 12000 {
		vars := 1 + n%4
		s := someField(r, kindsUpTo(api.TAtan), vars, n%9, []int{2, 5, 64}[n%3])
		x, order := someBox(r, vars), n%8
		if n%40 == 0 {
			order = 20
		}
		if n%10 == 0 {
			x[0] = iv(1e120, 1e121)
		}
		c, e := taylor.Coefs(s, x, order)
		want, f := wordsCoefs(s, x, order)
		if e != f || !sameRows(c, want) {
			t.Errorf("Coefs(%v, %v, %d) = %v, %d, want %v, %d", s, x, order, c, e, want, f)
		}
		for _, row := range c {
			for _, v := range row {
				if !ival.Right(v) || unbounded(v) {
					t.Errorf("Coefs(%v, %v, %d) tells %v", s, x, order, v)
				}
			}
		}
		seen[e]++
		if e == api.OK && order > 2 {
			for _, o := range s.Ops {
				kinds[o.Kind]++
			}
		}
	}
	if seen[api.OK] < 1000 || seen[api.ErrDomain] < 1000 || seen[api.ErrWide] < 50 || len(seen) != 3 {
		t.Error("what was told:", seen)
	}
	for kind := api.TConst; kind <= api.TAtan; kind++ {
		if kinds[kind] < 100 {
			t.Errorf("kind %d was there %d times", kind, kinds[kind])
		}
	}
}

// longest is a field as long as may be, that has a series: what it does is soon near to 0 or 1.
func longest() (api.Tape, box) {
	t := api.Tape{Vars: 24}
	var x box
	for n := range 24 {
		t.Ops = append(t.Ops, variable(n))
		x = append(x, point(float64(n-12)/64))
	}
	for n := 24; len(t.Ops) < 4000; n++ {
		a, b := len(t.Ops)-1, len(t.Ops)-1-n%24
		kinds := []op{of(api.TSin, b), of(api.TCos, a), both(api.TMul, a, b), of(api.TAtan, a), both(api.TSub, b, a), of(api.TNeg, a), pow(b, 3), of(api.TSin, a)}
		t.Ops = append(t.Ops, kinds[n%len(kinds)])
	}
	for n := range 24 {
		t.Outs = append(t.Outs, 3999-n)
	}
	return t, x
}

// TestLongest is P6.1 at all limits at once, and P6.2 at all but the order.
func TestLongest(t *testing.T) {
	s, x := longest()
	c, e := taylor.Coefs(s, x, 20)
	want, f := wordsCoefs(s, x, 20)
	if e != api.OK || f != api.OK || !sameRows(c, want) {
		t.Errorf("Coefs: %d, %d", e, f)
	}
	if _, _, e := askSlopes(t, s, x, 4); e != api.OK {
		t.Errorf("Slopes: %d", e)
	}
}
