package lohner_test

import (
	"math"
	"math/rand"
	"testing"

	"orrery/api"
	"orrery/ival"
)

// followed asks for a step, and holds what is told against solutions from some members of the set, on their way and at the end.
func followed(t *testing.T, r *rand.Rand, l law, s api.Set, time float64, order int) answer {
	t.Helper()
	a := ask(t, l.field, s, time, order)
	if a.e != api.OK {
		return a
	}
	told := boxOf(t, a.set)
	for range 4 {
		v := someMember(r, s)
		end := l.at(v, num(time))
		if end == nil {
			t.Errorf("%s from %v for %g: a solution ends, but %v, %v was told", l.name, s, time, a.set, a.box)
			continue
		}
		if !has(t, a.set, end) || !holds(told, end) {
			t.Errorf("%s from %v for %g at the order %d: %v, of the box %v, has not %v, of %v", l.name, s, time, order, a.set, told, end, v)
		}
		for _, h := range []float64{0, time, someIn(r, iv(0, time))} {
			if between := l.at(v, num(h)); !holds(a.box, between) {
				t.Errorf("%s from %v for %g: %v does not hold %v, of %v at %g", l.name, s, time, a.box, between, v, h)
			}
		}
	}
	return a
}

// someLaw is of one to four variables, with somewhere to begin at.
func someLaw(r *rand.Rand) (law, []float64) {
	somewhere := func(vars int) []float64 {
		var c []float64
		for range vars {
			c = append(c, eighths(r, 2))
		}
		return c
	}
	switch r.Intn(8) {
	case 0:
		return seesaw(), somewhere(2)
	case 1:
		return ray(), []float64{eighths(r, 2), 0.25 + r.Float64()}
	case 2:
		return rooted(), []float64{0.25 + r.Float64(), 0.25 + r.Float64()}
	case 3:
		return cubes(), somewhere(2)
	case 4, 5:
		vars := 1 + r.Intn(4)
		return someSquares(vars), somewhere(vars)
	}
	vars := 1 + r.Intn(4)
	return line(someMatrix(r, vars), somewhere(vars)), somewhere(vars)
}

// TestSteps is P9.2 and P9.4: solutions that are known, from members of sets by chance.
func TestSteps(t *testing.T) {
	r := chance(91)
	seen := tally{}
	for range 3000 {
		l, c := someLaw(r)
		s := someSet(r, c, math.Ldexp(1, -3-r.Intn(30)))
		time := math.Ldexp(1+r.Float64(), -r.Intn(12))
		seen[followed(t, r, l, s, time, 1+r.Intn(10)).e]++
	}
	seen.wants(t, 100, api.OK, api.ErrBound)
}

// TestManySteps is P9.2 where one step's set is the next one's: solutions from the first set stay in all of them.
func TestManySteps(t *testing.T) {
	r := chance(92)
	steps := 0
	for range 150 {
		l, c := someLaw(r)
		s := someSet(r, c, math.Ldexp(1, -6-r.Intn(20)))
		var begun, at []place
		for range 3 {
			begun = append(begun, someMember(r, s))
		}
		at = append(at, begun...)
		time := num(0)
		for range 10 {
			h := math.Ldexp(1+r.Float64(), -5-r.Intn(4))
			a := ask(t, l.field, s, h, 2+r.Intn(7))
			if a.e != api.OK {
				break
			}
			steps++
			time = plus(time, num(h))
			for i := range begun {
				end := l.at(begun[i], time)
				if !holds(a.box, at[i]) || !holds(a.box, end) || !has(t, a.set, end) || !holds(boxOf(t, a.set), end) {
					t.Errorf("%s: %v, %v has not %v, from %v of %v", l.name, a.set, a.box, end, begun[i], s)
				}
				at[i] = end
			}
			s = a.set
		}
	}
	if steps < 1000 {
		t.Error("only so many steps:", steps)
	}
}

// TestSquaresEnd is P9.2: no step is told beyond the end of a solution, and ahead of it some are.
func TestSquaresEnd(t *testing.T) {
	r := chance(93)
	seen := tally{}
	for range 600 {
		b := 0.25 + r.Float64()
		s := newOf(t, box{iv(b, b+r.Float64()/8)})
		time := r.Float64() * 2 / b
		seen[followed(t, r, someSquares(1), s, time, 1+r.Intn(19)).e]++
	}
	seen.wants(t, 20, api.OK, api.ErrBound)
}

// someCalm is a calm field, and a box from which it is.
func someCalm(r *rand.Rand) (law, box) {
	vars := 1 + r.Intn(4)
	a, b := make(matrix, vars), make([]float64, vars)
	greatest := r.Intn(3) == 0
	var x box
	for i := range a {
		for range vars {
			v := float64(r.Intn(5) - 2)
			if greatest {
				v = float64(4*r.Intn(2) - 2)
			}
			a[i] = append(a[i], v)
		}
		b[i] = float64(r.Intn(17) - 8)
		x = append(x, someCalmInterval(r))
	}
	return line(a, b), x
}

// someCalmInterval is one from -8 to 8, at most 1 wide.
func someCalmInterval(r *rand.Rand) api.Ival {
	lo := float64(r.Intn(17) - 8)
	if r.Intn(2) == 0 {
		lo = 16*r.Float64() - 8
	}
	return iv(lo, min(8, lo+[]float64{0, 1, 0.5, 0x1p-10, r.Float64()}[r.Intn(5)]))
}

// TestCalm is P9.3, and that what is told holds solutions.
func TestCalm(t *testing.T) {
	r := chance(94)
	for n := range 4000 {
		l, x := someCalm(r)
		time := []float64{0x1p-20, 0x1p-4, math.Ldexp(1+r.Float64(), -5-r.Intn(16))}[r.Intn(3)]
		order := 4 + r.Intn(9)
		s := newOf(t, x)
		var a answer
		if n%10 == 0 {
			a = followed(t, r, l, s, time, order)
		} else {
			a = ask(t, l.field, s, time, order)
		}
		if a.e != api.OK {
			t.Errorf("%v from %v for %g at the order %d: the error %d", l.field, x, time, order, a.e)
		}
	}
}

// turn is x' = y, y' = -x, in as few operations as can be.
func turn() api.Tape {
	return api.Tape{Vars: 2, Ops: []op{variable(0), variable(1), of(api.TNeg, 0)}, Outs: []int{1, 2}}
}

// turned goes on from a box for 100 steps, asking for P9.4's widths, and for solutions from some of its corners.
func turned(t *testing.T, r *rand.Rand, field api.Tape, x box) {
	t.Helper()
	s := newOf(t, x)
	room := 4*widest(x) + 0x1p-30
	v := []place{someMember(r, s), someMember(r, s)}
	for n := range 100 {
		a := ask(t, field, s, 0x1p-4, 8)
		if a.e != api.OK {
			t.Fatalf("from %v, step %d: the error %d", x, n, a.e)
		}
		s = a.set
		b := boxOf(t, s)
		if widest(b) > room {
			t.Fatalf("from %v, step %d: %v is wider than %g", x, n, b, room)
		}
		for i := range v {
			v[i] = turning().at(v[i], num(0x1p-4))
			if !holds(b, v[i]) || !has(t, s, v[i]) {
				t.Fatalf("from %v, step %d: %v, of the box %v, has not %v", x, n, s, b, v[i])
			}
		}
	}
}

// TestTurning is P9.4: the turning field's set does not swell.
func TestTurning(t *testing.T) {
	r := chance(95)
	fields := []api.Tape{turn(), turning().field}
	for n := range 40 {
		var x box
		for range 2 {
			middle, width := 16*r.Float64()-8, 0x1p-10*[]float64{0, 1, r.Float64(), 0x1p-30}[r.Intn(4)]
			lo, hi := middle-width/2, middle+width/2
			if hi-lo > 0x1p-10 {
				hi = lo + 0x1p-11
			}
			x = append(x, iv(lo, hi))
		}
		turned(t, r, fields[n%2], x)
	}
	turned(t, r, turn(), box{iv(8, 8), iv(-8, -8)})
	turned(t, r, turn(), box{iv(8-0x1p-11, 8+0x1p-11), iv(-0x1p-11, 0x1p-11)})
	turned(t, r, turn(), box{iv(0, 0), iv(0, 0)})
	turned(t, r, turn(), box{iv(0, 0x1p-10), iv(8, 8)})
}

// TestNarrow: from one vector on, a step leaves little more than rounding, where the series comes near.
func TestNarrow(t *testing.T) {
	r := chance(96)
	for range 200 {
		l, x := someCalm(r)
		for i := range x {
			x[i] = point(x[i].Lo)
		}
		a := ask(t, l.field, newOf(t, x), 0x1p-6, 12)
		if a.e != api.OK || widest(boxOf(t, a.set)) > 0x1p-40 {
			t.Errorf("%v from %v: %v", l.field, x, a)
		}
	}
}

// TestLongEdge: a set that is long and thin stays so, whichever of its edges is the long one.
func TestLongEdge(t *testing.T) {
	for _, s := range []api.Set{
		{C: []float64{1, 1}, A: matrix{{1, 0.5}, {0, 0.5}}, R: box{iv(-0x1p-20, 0x1p-20), iv(-0.5, 0.5)}},
		{C: []float64{1, 1}, A: matrix{{0.5, 1}, {0.5, 0}}, R: box{iv(-0.5, 0.5), iv(-0x1p-20, 0x1p-20)}},
		{C: []float64{1, 1}, A: matrix{{0x1p-20, 8}, {0, 8}}, R: box{iv(-1, 1), iv(-0x1p-5, 0x1p-5)}},
	} {
		for n := range 30 {
			a := ask(t, turn(), s, 0x1p-4, 8)
			if a.e != api.OK || min(ival.Wid(a.set.R[0]), ival.Wid(a.set.R[1])) > 0x1p-18 {
				t.Fatalf("step %d: from %v to %v", n, s, a)
			}
			s = a.set
		}
	}
}

// TestClock: from one vector on, a component that goes by itself stays narrow, though the other one's rest is great.
func TestClock(t *testing.T) {
	wave := api.Tape{Vars: 2, Ops: []op{variable(0), lit(1000), both(api.TMul, 0, 1), of(api.TSin, 2), lit(1)}, Outs: []int{4, 3}}
	s := newOf(t, points(0, 0))
	for n := range 50 {
		a := ask(t, wave, s, 0x1p-9, 6)
		if a.e != api.OK {
			t.Fatalf("step %d: the error %d", n, a.e)
		}
		s = a.set
		if b := boxOf(t, s); ival.Wid(b[0]) > 0x1p-45 || ival.Wid(b[1]) < 0x1p-30 {
			t.Fatalf("step %d: %v", n, b)
		}
	}
}

// TestFunctions is P9.2 of the kinds beyond roots: x goes on, and y is drawn along by a function of it.
func TestFunctions(t *testing.T) {
	r := chance(97)
	for _, c := range []struct {
		name string
		kind int
		sum  func(x float64) float64 // its slope is the function
	}{
		{"exp", api.TExp, math.Exp},
		{"log", api.TLog, func(x float64) float64 { return x*math.Log(x) - x }},
		{"sin", api.TSin, func(x float64) float64 { return -math.Cos(x) }},
		{"cos", api.TCos, math.Sin},
		{"atan", api.TAtan, func(x float64) float64 { return x*math.Atan(x) - math.Log1p(x*x)/2 }},
	} {
		field := api.Tape{Vars: 2, Ops: []op{variable(0), of(c.kind, 0), lit(1)}, Outs: []int{2, 1}}
		for range 60 {
			s := someSet(r, []float64{1 + r.Float64(), eighths(r, 2)}, 0x1p-4)
			time := r.Float64() / 4
			a := ask(t, field, s, time, 1+r.Intn(12))
			if a.e != api.OK {
				t.Errorf("%s from %v for %g: the error %d", c.name, s, time, a.e)
				continue
			}
			v := someMember(r, s)
			x, _ := v[0].Float64()
			y, _ := v[1].Float64()
			end := []float64{x + time, y + c.sum(x+time) - c.sum(x)}
			for i, b := range boxOf(t, a.set) {
				if !nearlyHas(b, end[i]) || !nearlyHas(a.box[i], end[i]) {
					t.Errorf("%s from %v for %g: %v, %v does not hold %v", c.name, s, time, a.set, a.box, end)
				}
			}
		}
	}
}

// nearlyHas leaves room for what floats lose.
func nearlyHas(x api.Ival, v float64) bool {
	return ival.Has(ival.Add(x, iv(-1e-12, 1e-12)), v)
}
