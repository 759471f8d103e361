package taylor_test

import (
	"math/rand"
	"testing"

	"orrery/api"
	"orrery/ival"
	"orrery/taylor"
)

// askSlopes holds what Slopes tells against what its promise asks of any answer, and tells whether there are slopes.
func askSlopes(t *testing.T, s api.Tape, x box, order int) (c []box, d [][]box, e api.Errno) {
	t.Helper()
	coefs, f := taylor.Coefs(s, x, order)
	c, d, e = taylor.Slopes(s, x, order)
	switch {
	case f != api.OK && e != f:
		t.Errorf("Slopes(%v, %v, %d): %d, but Coefs: %d", s, x, order, e, f)
	case e != api.OK && e != api.ErrDomain && e != api.ErrWide:
		t.Errorf("Slopes(%v, %v, %d): %d", s, x, order, e)
	case e != api.OK && (c != nil || d != nil):
		t.Errorf("Slopes(%v, %v, %d) = %v, %v beside the error %d", s, x, order, c, d, e)
	case e == api.OK && !sameRows(c, coefs):
		t.Errorf("Slopes(%v, %v, %d) tells the coefficients %v, Coefs %v", s, x, order, c, coefs)
	case e == api.OK && !asMany(d, order+1, len(x)):
		t.Errorf("Slopes(%v, %v, %d) tells the slopes %v", s, x, order, d)
	}
	return c, d, e
}

// asMany tells whether slopes are there for each coefficient, variable and variable of the beginning, each with an end.
func asMany(d [][]box, orders, vars int) bool {
	if len(d) != orders {
		return false
	}
	for _, rows := range d {
		if len(rows) != vars {
			return false
		}
		for _, row := range rows {
			if len(row) != vars {
				return false
			}
			for _, v := range row {
				if !ival.Right(v) || unbounded(v) {
					return false
				}
			}
		}
	}
	return true
}

// TestSlopesByHand is P6.2: of linear fields, and of x' = x x, whose coefficient k has the slope (k + 1) x^k.
func TestSlopesByHand(t *testing.T) {
	turning := api.Tape{Vars: 2, Ops: []op{variable(1), variable(0), of(api.TNeg, 1)}, Outs: []int{0, 2}}
	_, d, e := askSlopes(t, turning, box{iv(1, 2), iv(-3, 4)}, 2)
	want := [][]box{{points(1, 0), points(0, 1)}, {points(0, 1), points(-1, 0)}, {points(-0.5, 0), points(0, -0.5)}}
	if e != api.OK || !sameTables(d, want) {
		t.Error("x' = y, y' = -x:", d, e)
	}
	_, d, e = askSlopes(t, lastOf(variable(0), both(api.TMul, 0, 0)), box{iv(1, 2)}, 5)
	for k := range d {
		for _, x := range []float64{1, 1.25, 2} {
			slope := float64(k + 1)
			for range k {
				slope *= x
			}
			if !ival.Has(d[k][0][0], slope) {
				t.Errorf("x' = x x: the slope %d is %v, without %g", k, d[k][0][0], slope)
			}
		}
	}
	if e != api.OK {
		t.Error("x' = x x:", e)
	}
	still := api.Tape{Vars: 2, Ops: []op{lit(1, 2), of(api.TSin, 0)}, Outs: []int{0, 1}}
	_, d, e = askSlopes(t, still, box{iv(1, 2), iv(-3, 4)}, 2)
	none := []box{points(0, 0), points(0, 0)}
	if e != api.OK || !sameTables(d, [][]box{want[0], none, none}) {
		t.Error("rates that hang on nothing:", d, e)
	}
}

// TestRefusedSlopes is P6.2: where Coefs tells coefficients, but there is no bounded slope.
func TestRefusedSlopes(t *testing.T) {
	root := lastOf(variable(0), of(api.TSqrt, 0))
	for _, x := range (box{iv(0, 4), point(0), iv(0, least)}) {
		if _, f := taylor.Coefs(root, box{x}, 1); f != api.OK {
			t.Errorf("Coefs(%v, %v, 1): %d", root, x, f)
		}
		if c, d, e := askSlopes(t, root, box{x}, 1); e == api.OK {
			t.Errorf("Slopes(%v, %v, 1) = %v, %v", root, x, c, d)
		}
	}
	// The product is small, how fast it grows is beyond all floats.
	steep := lastOf(variable(0), lit(1e200, 1e200), both(api.TMul, 0, 1), both(api.TMul, 2, 1))
	if _, f := taylor.Coefs(steep, points(1e-300), 1); f != api.OK {
		t.Errorf("Coefs(%v, 1e-300, 1): %d", steep, f)
	}
	if c, d, e := askSlopes(t, steep, points(1e-300), 1); e == api.OK {
		t.Errorf("Slopes(%v, 1e-300, 1) = %v, %v", steep, c, d)
	}
	// What is refused is Coefs' error first, though a slope ahead of it has none.
	askError(t, "steep, and outside", lastOf(append(steep.Ops, lit(-1, 0), of(api.TSqrt, 4))...), points(1e-300), 1, api.ErrDomain)
	askError(t, "no slope, and wide", lastOf(append(root.Ops, op{Kind: api.TConst, Lit: all})...), box{iv(0, 4)}, 1, api.ErrWide)
}

// someSmallField is one of those at which slopes are never refused.
func someSmallField(r *rand.Rand) (api.Tape, box) {
	amount := func() api.Ival {
		return []api.Ival{point(8), point(-8), iv(-8, 8), iv(float64(r.Intn(9)-8), float64(r.Intn(9)))}[r.Intn(4)]
	}
	kinds := []int{api.TConst, api.TVar, api.TAdd, api.TAdd, api.TAdd, api.TSub, api.TSub, api.TMul, api.TNeg}
	t := api.Tape{Vars: 1 + r.Intn(1+r.Intn(24))}
	products := r.Intn(3)
	for len(t.Ops) < 1+r.Intn(12) {
		o := someOp(r, kinds, len(t.Ops), t.Vars, 0)
		if o.Kind == api.TMul {
			if products == 0 {
				continue
			}
			products--
		}
		if o.Kind == api.TConst {
			o.Lit = amount()
		}
		t.Ops = append(t.Ops, o)
	}
	var x box
	for range t.Vars {
		t.Outs = append(t.Outs, r.Intn(len(t.Ops)))
		x = append(x, amount())
	}
	return t, x
}

// TestNeverRefused is P6.2: of small fields of sums and at most two products.
func TestNeverRefused(t *testing.T) {
	r := chance(63)
	for n := range 3000 {
		s, x := someSmallField(r)
		if _, _, e := askSlopes(t, s, x, n%9); e != api.OK {
			t.Errorf("Slopes(%v, %v, %d): %d", s, x, n%9, e)
		}
	}
}

// TestNeverRefusedAtTheBounds is P6.2 of the steepest of these: nine times doubled, wherever both products stand.
func TestNeverRefusedAtTheBounds(t *testing.T) {
	for first := range 10 {
		for second := first; second <= 9; second++ {
			for _, leaf := range []op{variable(0), lit(-8, 8)} {
				ops := []op{leaf}
				for n := range 10 {
					for _, place := range []int{first, second} {
						if place == n {
							ops = append(ops, both(api.TMul, len(ops)-1, len(ops)-1))
						}
					}
					if n < 9 {
						ops = append(ops, both(api.TAdd, len(ops)-1, len(ops)-1))
					}
				}
				if len(ops) != 12 {
					t.Fatal("operations:", len(ops))
				}
				for _, x := range (box{point(8), point(-8), iv(-8, 8)}) {
					if _, _, e := askSlopes(t, lastOf(ops...), box{x}, 8); e != api.OK {
						t.Errorf("Slopes(%v, %v, 8): %d", ops, x, e)
					}
				}
			}
		}
	}
}

// TestSlopesByChance is P6.2: what any answer must be, of all kinds. It is refused seldom, where Coefs tells none.
func TestSlopesByChance(t *testing.T) {
	r := chance(64)
	told, refused := 0, 0
	for n := range 6000 {
		vars := 1 + n%4
		s := someField(r, kindsUpTo(api.TAtan), vars, n%9, []int{2, 5, 64}[n%3])
		x, order := someBox(r, vars), n%8
		_, _, e := askSlopes(t, s, x, order)
		if _, f := taylor.Coefs(s, x, order); f == api.OK && e != api.OK {
			refused++
		}
		if e == api.OK {
			told++
		}
	}
	if told < 2000 || refused > told/50 {
		t.Errorf("slopes were told %d times, refused %d times", told, refused)
	}
}
