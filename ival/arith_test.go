package ival_test

import (
	"math"
	"testing"

	"orrery/api"
	"orrery/ival"
	"orrery/ulp"
)

// operation is a call with what it must hold, and what it is of floats.
type operation struct {
	name   string
	call   func(x, y api.Ival) api.Ival
	exact  func(a, b number) number
	floats func(a, b float64, dir int) float64
}

func operations() []operation {
	return []operation{
		{"Add", ival.Add, sum, ulp.Add},
		{"Sub", ival.Sub, difference, ulp.Sub},
		{"Mul", ival.Mul, product, ulp.Mul},
		{"Div", ival.Div, quotient, ulp.Div},
	}
}

func TestHullAndMeet(t *testing.T) {
	for _, x := range edges() {
		for _, y := range edges() {
			var both []number
			for _, v := range append(members(x), members(y)...) {
				if held(v, x) && held(v, y) {
					both = append(both, v)
				}
			}
			if got, want := ival.Meet(x, y), leastOf(both); !sameIval(got, want) {
				t.Errorf("Meet(%g, %g) = %g, want %g", x, y, got, want)
			}
			want := leastOf(append(members(x), members(y)...))
			if got := ival.Hull(x, y); !sameIval(got, want) {
				t.Errorf("Hull(%g, %g) = %g, want %g", x, y, got, want)
			}
		}
	}
}

func checkPair(t *testing.T, x, y api.Ival) {
	t.Helper()
	for _, o := range operations() {
		if got, want := o.call(x, y), ofPairs(x, y, o.exact); !sameIval(got, want) {
			t.Errorf("%s(%g, %g) = %g, want %g", o.name, x, y, got, want)
		}
	}
}

func TestLeastOfEdges(t *testing.T) {
	for _, x := range edges() {
		for _, y := range edges() {
			checkPair(t, x, y)
		}
	}
}

func TestLeastByChance(t *testing.T) {
	draw := chance(1)
	for range 1500 {
		checkPair(t, draw(), draw())
	}
}

func TestLeastOfOne(t *testing.T) {
	draw := chance(2)
	xs := manyEdges()
	for range 1500 {
		xs = append(xs, draw())
	}
	for _, x := range xs {
		var negatives, squares, roots []number
		for _, a := range members(x) {
			negatives = append(negatives, fresh().Neg(a))
			squares = append(squares, product(a, a))
			if r := root(a); r != nil {
				roots = append(roots, r)
			}
		}
		if got, want := ival.Neg(x), leastOf(negatives); !sameIval(got, want) {
			t.Errorf("Neg(%g) = %g, want %g", x, got, want)
		}
		if got, want := ival.Sqr(x), leastOf(squares); !sameIval(got, want) {
			t.Errorf("Sqr(%g) = %g, want %g", x, got, want)
		}
		if got, want := ival.Sqrt(x), leastOf(roots); !sameIval(got, want) {
			t.Errorf("Sqrt(%g) = %g, want %g", x, got, want)
		}
	}
}

// TestDivisorsThatHoldZero says by hand what the edges come to.
func TestDivisorsThatHoldZero(t *testing.T) {
	for _, c := range []struct{ x, y, want api.Ival }{
		{iv(1, 2), iv(0, 4), iv(0.25, inf)},
		{iv(1, 2), iv(-4, 0), iv(-inf, -0.25)},
		{iv(-2, -1), iv(0, 4), iv(-inf, -0.25)},
		{iv(-2, -1), iv(-4, 0), iv(0.25, inf)},
		{iv(-1, 2), iv(0, 4), all},
		{iv(-1, 2), iv(-4, 0), all},
		{iv(0, 2), iv(0, 4), iv(0, inf)},
		{iv(0, 2), iv(-4, 0), iv(-inf, 0)},
		{iv(-2, 0), iv(0, 4), iv(-inf, 0)},
		{iv(-2, 0), iv(-4, 0), iv(0, inf)},
		{iv(0, 0), iv(-4, 4), iv(0, 0)},
		{iv(0, 0), iv(0, 4), iv(0, 0)},
		{iv(0, 0), iv(-4, 0), iv(0, 0)},
		{iv(0, 0), all, iv(0, 0)},
		{iv(0, 0), iv(0, 0), none},
		{all, iv(0, 0), none},
		{iv(least, least), iv(-least, greatest), all},
		{iv(1, 2), iv(0, inf), iv(0, inf)},
		{iv(1, 2), iv(4, inf), iv(0, 0.5)},
		{iv(-2, -1), iv(4, inf), iv(-0.5, 0)},
		{iv(1, inf), iv(4, inf), iv(0, inf)},
		{iv(greatest, greatest), iv(0, least), iv(greatest, inf)},
		{all, iv(1, 2), all},
		{all, all, all},
		{iv(1, 1), iv(3, 3), iv(0x15555555555555p-54, 0x15555555555556p-54)},
	} {
		if got := ival.Div(c.x, c.y); !sameIval(got, c.want) {
			t.Errorf("Div(%g, %g) = %g, want %g", c.x, c.y, got, c.want)
		}
	}
}

// floatsIn are some finite floats that x holds.
func floatsIn(x api.Ival) []float64 {
	var out []float64
	for _, v := range []float64{x.Lo, x.Hi, math.Nextafter(x.Lo, inf), math.Nextafter(x.Hi, -inf), ival.Mid(x), 0, 1, -1, greatest, -greatest} {
		if !math.IsInf(v, 0) && v >= x.Lo && v <= x.Hi {
			out = append(out, v)
		}
	}
	return out
}

// holdsRounded tells whether x goes up to v, which may be infinite.
func holdsRounded(x api.Ival, v float64) bool { return x.Lo <= v && v <= x.Hi }

// TestWhatIsMadeIsHeld is the first half of P2.7.
func TestWhatIsMadeIsHeld(t *testing.T) {
	draw := chance(3)
	pairs := [][2]api.Ival{}
	for _, x := range edges() {
		for _, y := range edges() {
			pairs = append(pairs, [2]api.Ival{x, y})
		}
	}
	for range 3000 {
		pairs = append(pairs, [2]api.Ival{draw(), draw()})
	}
	for _, p := range pairs {
		for _, a := range floatsIn(p[0]) {
			for _, b := range floatsIn(p[1]) {
				for _, o := range operations() {
					if o.name == "Div" && b == 0 {
						continue
					}
					made := o.call(p[0], p[1])
					for dir := -1; dir <= 1; dir++ {
						if v := o.floats(a, b, dir); !holdsRounded(made, v) {
							t.Errorf("%s(%g, %g) = %g: without %g", o.name, p[0], p[1], made, v)
						}
					}
				}
			}
		}
	}
}

// TestGreaterMakesGreater is the second half of P2.7.
func TestGreaterMakesGreater(t *testing.T) {
	draw := chance(4)
	xs := between(-inf, -1, 0, least, 3, inf)
	for range 20 {
		xs = append(xs, draw())
	}
	for _, x := range xs {
		for _, grown := range xs {
			grown = ival.Hull(x, grown)
			for name, call := range one() {
				if !ival.Inside(call(x), call(grown)) {
					t.Errorf("%s(%g) = %g, but of %g it is %g", name, x, call(x), grown, call(grown))
				}
			}
			if ival.Wid(x) > ival.Wid(grown) || ival.Mag(x) > ival.Mag(grown) || x != none && ival.Mig(x) < ival.Mig(grown) {
				t.Errorf("sizes of %g and %g", x, grown)
			}
			for _, y := range xs {
				for name, call := range two() {
					if !ival.Inside(call(x, y), call(grown, y)) || !ival.Inside(call(y, x), call(y, grown)) {
						t.Errorf("%s of %g and %g, and of %g", name, x, y, grown)
					}
				}
			}
		}
	}
}
