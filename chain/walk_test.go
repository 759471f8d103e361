package chain_test

import (
	"math"
	"math/rand"
	"testing"

	"orrery/api"
	"orrery/ival"
)

// TestSolutions is P10.2, and P10.4 of pieces: solutions that are known, whatever is asked for, beside errors, too.
func TestSolutions(t *testing.T) {
	r := chance(101)
	seen := tally{}
	for range 400 {
		l, v := someLaw(r)
		x := boxFrom(r, v, math.Ldexp(1, -3-r.Intn([]int{2, 30}[r.Intn(2)])))
		until := 1 + r.Int63n([]int64{100, second / 8, second, 4 * second}[r.Intn(4)])
		c := control{Order: 1 + r.Intn(12), Steps: []int{1, 10, 50, 300, 1000}[r.Intn(5)], Width: []float64{0.125, 0.25, 10, inf}[r.Intn(4)]}
		seen[followed(t, r, l, x, until, c).e]++
	}
	seen.wants(t, 10, api.OK, api.ErrFuel, api.ErrBound, api.ErrWide)
}

// TestHighOrders is P10.2 of orders up to the highest one.
func TestHighOrders(t *testing.T) {
	r := chance(102)
	for order := 13; order <= 19; order++ {
		for range 6 {
			l, v := someLaw(r)
			followed(t, r, l, boxFrom(r, v, 0x1p-20), second/2, control{Order: order, Steps: 40, Width: 10})
		}
	}
}

// TestSolutionsThatEnd is P10.2: no chain goes on behind the end of a solution, but each comes near to it.
func TestSolutionsThatEnd(t *testing.T) {
	r := chance(103)
	for _, c := range []struct {
		l    law
		ends func(v float64) float64 // in seconds
	}{
		{someSquares(1), func(v float64) float64 { return 1 / v }},
		{seesaw(), func(v float64) float64 { return 1 / v }},
		{falling(), func(v float64) float64 { return v * v / 2 }},
		{draining(), func(v float64) float64 { return 2 * math.Sqrt(v) }},
	} {
		for range 12 {
			v := 0.25 + r.Float64()
			x := points(v, 1)[:c.l.field.Vars]
			a := followed(t, r, c.l, x, 1<<(23+r.Intn(18)), control{Order: 4 + r.Intn(12), Steps: 5000, Width: 1e6})
			if a.e == api.OK || a.e == api.ErrFuel {
				t.Errorf("%s from %v: the error %d", c.l.name, x, a.e)
			}
			if ends := c.ends(v); float64(a.reached()) < 0.99*ends*second {
				t.Errorf("%s from %v: up to %d only, %d, of %g seconds", c.l.name, x, a.reached(), a.e, ends)
			}
		}
	}
}

// TestSolutionsThatEndSoon is P10.2 where only some that begin in the box end.
func TestSolutionsThatEndSoon(t *testing.T) {
	r := chance(104)
	for range 30 {
		v := 0.25 + r.Float64()
		for _, l := range []law{someSquares(1), falling()} {
			a := followed(t, r, l, box{iv(v, v+r.Float64()/8)}, 8*second, control{Order: 1 + r.Intn(12), Steps: 500, Width: 100})
			if a.e == api.OK || len(a.pieces) == 0 {
				t.Errorf("%s: %d pieces, %d", l.name, len(a.pieces), a.e)
			}
		}
	}
}

// someCalm is a calm field, and a box from which a chain is, with its greatest width.
func someCalm(r *rand.Rand) (law, box, float64) {
	vars := 1 + r.Intn(4)
	a, b := make(matrix, vars), make([]float64, vars)
	kind := r.Intn(3)
	width := []float64{0, 0x1p-10, 0x1p-10, 0x1p-20, r.Float64() * 0x1p-10}[r.Intn(5)]
	var x box
	for i := range a {
		for range vars {
			v := float64(r.Intn(5) - 2)
			switch {
			case kind == 0:
				v = float64(4*r.Intn(2) - 2)
			case kind == 1 && r.Intn(6) > 0:
				v = 2
			}
			a[i] = append(a[i], v)
		}
		b[i] = float64(r.Intn(17) - 8)
		x = append(x, someCalmInterval(r, width))
	}
	return line(a, b), x, widest(x)
}

// someCalmInterval is one from -8 to 8, of at most a width.
func someCalmInterval(r *rand.Rand, width float64) api.Ival {
	lo := float64(r.Intn(17) - 8)
	if r.Intn(2) == 0 {
		lo = 16*r.Float64() - 8
	}
	hi := min(8, lo+[]float64{0, width, width, width * r.Float64()}[r.Intn(4)])
	if hi-lo > width {
		hi = lo
	}
	return iv(lo, hi)
}

// calm asks for P10.3.
func calm(t *testing.T, r *rand.Rand, l law, x box, until int64, c control, isFollowed bool) {
	t.Helper()
	a := answer{}
	if isFollowed {
		a = followed(t, r, l, x, until, c)
	} else {
		a = ask(t, l.field, x, until, c)
	}
	if a.e != api.OK {
		t.Errorf("%v from %v up to %d, %v: the error %d", l.field, x, until, c, a.e)
	}
	room := 0x1p14*widest(x) + 0x1p-8
	for _, p := range a.pieces {
		if widest(p.End) > room {
			t.Fatalf("%v from %v up to %d, %v: %v is wider than %g", l.field, x, until, c, p, room)
		}
	}
}

// TestCalm is P10.3 of lines by chance.
func TestCalm(t *testing.T) {
	r := chance(105)
	for n := range 300 {
		l, x, _ := someCalm(r)
		until := []int64{second, second, 1 + r.Int63n(second)}[r.Intn(3)]
		c := control{Order: 8 + r.Intn(5), Steps: []int{256, 256, 257, 1000, 20000}[r.Intn(5)], Width: []float64{0x1p20, 0x1p20, 1e9, inf}[r.Intn(4)]}
		calm(t, r, l, x, until, c, n%15 == 0)
	}
}

// TestCalmEdges is P10.3 of the lines that grow most, and of those that turn and shear most.
func TestCalmEdges(t *testing.T) {
	r := chance(106)
	c := control{Order: 8, Steps: 256, Width: 0x1p20}
	for _, a := range []matrix{
		{{2}}, {{-2}}, {{0}},
		{{2, 2}, {2, 2}}, {{2, -2}, {-2, 2}}, {{0, 2}, {-2, 0}}, {{2, 2}, {-2, 2}}, {{2, 2}, {0, 2}}, {{-2, 2}, {0, -2}},
		{{2, 2, 2}, {2, 2, 2}, {2, 2, 2}}, {{2, 2, 2}, {0, 2, 2}, {0, 0, 2}}, {{0, 2, 2}, {-2, 0, 2}, {-2, -2, 0}},
		{{2, 2, 2, 2}, {2, 2, 2, 2}, {2, 2, 2, 2}, {2, 2, 2, 2}},
		{{2, 2, -2, -2}, {2, 2, -2, -2}, {-2, -2, 2, 2}, {-2, -2, 2, 2}},
		{{2, 2, 2, 2}, {0, 2, 2, 2}, {0, 0, 2, 2}, {0, 0, 0, 2}},
		{{0, 2, 2, 2}, {-2, 0, 2, 2}, {-2, -2, 0, 2}, {-2, -2, -2, 0}},
		{{-2, 2, 0, 0}, {0, -2, 2, 0}, {0, 0, -2, 2}, {2, 0, 0, -2}},
		{{0, 0, 0, 0}, {0, 0, 0, 0}, {0, 0, 0, 0}, {0, 0, 0, 0}},
	} {
		b := []float64{8, -8, 8, 8}[:len(a)]
		for _, x := range []box{
			{iv(8-0x1p-10, 8), iv(-8, -8+0x1p-10), iv(8-0x1p-10, 8), iv(7, 7+0x1p-10)},
			points(8, 8, 8, 8),
			{iv(-0x1p-11, 0x1p-11), point(0), point(-8), iv(0, 0x1p-30)},
		} {
			calm(t, r, line(a, b), x[:len(a)], second, c, len(a) < 3)
		}
	}
}

// TestLessTime is P10.4: the same solutions, with less time or fewer steps; and where two chains tell of one time, their boxes have something in common.
func TestLessTime(t *testing.T) {
	r := chance(107)
	for range 40 {
		l, v := someLaw(r)
		x := boxFrom(r, v, math.Ldexp(1, -4-r.Intn(20)))
		until := 2 + r.Int63n(2*second)
		c := control{Order: 2 + r.Intn(8), Steps: 200, Width: 100}
		answers := []answer{ask(t, l.field, x, until, c), ask(t, l.field, x, until/2, c), ask(t, l.field, x, 1+r.Int63n(until), c)}
		for _, steps := range []int{100, 20, 3, 1, 0} {
			c.Steps = steps
			answers = append(answers, ask(t, l.field, x, until, c), ask(t, l.field, x, until/2, c))
		}
		for _, n := range []int{0, 1, 2} {
			begin := startIn(r, x, n)
			for _, a := range answers {
				follow(t, r, l, begin, a, x)
			}
		}
		for _, a := range answers[1:] {
			agree(t, l.name, answers[0], a)
		}
	}
}

// agree asks that pieces of one time have something in common.
func agree(t *testing.T, name string, a, b answer) {
	t.Helper()
	for _, p := range a.pieces {
		for _, q := range b.pieces {
			if p.From <= q.To && q.From <= p.To && !meet(p.All, q.All) || p.To == q.To && !meet(p.End, q.End) {
				t.Errorf("%s: %v and %v have nothing in common", name, p, q)
			}
		}
	}
}

// TestFunctions is P10.2 of the kinds beyond roots: x goes on, and y is drawn along by a function of it.
func TestFunctions(t *testing.T) {
	r := chance(108)
	for _, c := range []struct {
		name string
		kind int
		sum  func(x float64) float64 // its slope is the function
	}{
		{"exp", api.TExp, math.Exp},
		{"log", api.TLog, func(x float64) float64 { return x*math.Log(x) - x }},
		{"sin", api.TSin, func(x float64) float64 { return -math.Cos(x) }},
		{"cos", api.TCos, math.Sin},
		{"atan", api.TAtan, func(x float64) float64 { return x*math.Atan(x) - math.Log1p(x*x)/2 }},
	} {
		field := api.Tape{Vars: 2, Ops: []op{variable(0), of(c.kind, 0), lit(1)}, Outs: []int{2, 1}}
		for range 8 {
			x := boxFrom(r, []float64{1 + r.Float64(), eighths(r, 2)}, 0x1p-6)
			a := ask(t, field, x, second, control{Order: 3 + r.Intn(8), Steps: 300, Width: 10})
			if a.e != api.OK {
				t.Errorf("%s from %v: the error %d", c.name, x, a.e)
			}
			u, v := someIn(r, x[0]), someIn(r, x[1])
			at := func(h float64) []float64 { return []float64{u + h, v + c.sum(u+h) - c.sum(u)} }
			for _, p := range a.pieces {
				from, to := float64(p.From)/second, float64(p.To)/second
				if !nearlyHas(p.End, at(to)) || !nearlyHas(p.All, at(to)) || !nearlyHas(p.All, at(from+r.Float64()*(to-from))) {
					t.Errorf("%s from %v: %v has not the solution from %g, %g", c.name, x, p, u, v)
				}
			}
		}
	}
}

// nearlyHas leaves room for what floats lose.
func nearlyHas(b box, v []float64) bool {
	for i, x := range b {
		if !ival.Has(ival.Add(x, iv(-1e-12, 1e-12)), v[i]) {
			return false
		}
	}
	return true
}

// TestNarrow: ends are as narrow as can be hoped for, where the order is high enough.
func TestNarrow(t *testing.T) {
	r := chance(109)
	c := control{Order: 8, Steps: 500, Width: 1000}
	if a := followed(t, r, line(matrix{{-1}}, []float64{0}), points(1), second, c); a.e != api.OK || widest(a.last()) > 1e-12 {
		t.Error("x' = -x:", a)
	}
	if a := followed(t, r, turning(), points(1, 0), 20*second, c); a.e != api.OK || widest(a.last()) > 1e-10 {
		t.Error("what turns, for 20 seconds:", a.e, a.pieces[len(a.pieces)-1])
	}
	if a := followed(t, r, someSquares(2), points(0.5, 0.25), second, c); a.e != api.OK || widest(a.last()) > 1e-10 {
		t.Error("squares:", a.e, a.pieces[len(a.pieces)-1])
	}
	if a := followed(t, r, cubes(), box{iv(1, 1.25), iv(0, 0)}, 10*second, c); a.e != api.OK || ival.Wid(a.last()[0]) > 1e-2 {
		t.Error("a wide box:", a.e, a.pieces[len(a.pieces)-1])
	}
}

// TestClock: a component that goes on by itself stays narrow beside one that is wide, or follows a fast wave.
func TestClock(t *testing.T) {
	wave := api.Tape{Vars: 2, Ops: []op{variable(0), lit(1000), both(api.TMul, 0, 1), of(api.TSin, 2), lit(1)}, Outs: []int{4, 3}}
	a := ask(t, wave, points(0, 0), second, control{Order: 12, Steps: 1000, Width: 1})
	if a.e != api.OK || ival.Wid(a.last()[0]) > 1e-12 || !nearlyHas(a.last(), []float64{1, (1 - math.Cos(1000)) / 1000}) {
		t.Error("a wave:", a.e, a.pieces[len(a.pieces)-1])
	}
	if len(a.pieces) < 100 {
		t.Error("so few pieces tell no wave:", len(a.pieces))
	}
}
