package ulp_test

import (
	"math"
	"testing"

	"orrery/api"
	"orrery/ulp"
)

type operation struct {
	name  string
	call  func(a, b float64, dir int) float64
	exact func(a, b float64) exact
}

func operations() []operation {
	return []operation{
		{"Add", ulp.Add, sumOf},
		{"Sub", ulp.Sub, differenceOf},
		{"Mul", ulp.Mul, productOf},
		{"Div", ulp.Div, quotientOf},
	}
}

// checkFinite holds all four against the exact numbers, for finite a and b.
func checkFinite(t *testing.T, a, b float64) {
	t.Helper()
	for _, o := range operations() {
		want := [3]float64{nan, nan, nan}
		if o.name != "Div" || b != 0 {
			want = rounded(o.exact(a, b))
		}
		for _, dir := range allDirs {
			if got := o.call(a, b, dir); !same(got, want[column(dir)]) {
				t.Errorf("%s(%g, %g, %d) = %g, want %g", o.name, a, b, dir, got, want[column(dir)])
			}
		}
	}
}

func TestFiniteEdges(t *testing.T) {
	amounts := edgeAmounts()
	for _, a := range amounts {
		for _, b := range amounts {
			checkFinite(t, a, b)
			checkFinite(t, a, -b)
		}
	}
}

func TestFiniteSigns(t *testing.T) {
	few := []float64{0, minus0, least, powerOf2(-1022), powerOf2(-53), 1 / 3.0, 1, 3, powerOf2(970), greatest}
	for _, a := range few {
		for _, b := range few {
			checkFinite(t, -a, b)
			checkFinite(t, -a, -b)
		}
	}
}

func TestFiniteByChance(t *testing.T) {
	draw := chance(4)
	for range 1500 {
		checkFinite(t, draw(), draw())
	}
}

// TestLostInAShift goes through all distances of two exponents, at which bits of a sum come to lie beyond those kept.
func TestLostInAShift(t *testing.T) {
	for d := 0; d <= 130; d++ {
		for _, m := range []float64{1, 1 + powerOf2(-52), 2 - powerOf2(-52), 1.5} {
			for _, a := range []float64{1, 1 + powerOf2(-52), 2 - powerOf2(-52)} {
				for _, b := range []float64{m * powerOf2(-d), -m * powerOf2(-d)} {
					for _, dir := range allDirs {
						want := rounded(sumOf(a, b))[column(dir)]
						if got := ulp.Add(a, b, dir); !same(got, want) {
							t.Errorf("Add(%g, %g, %d) = %g, want %g", a, b, dir, got, want)
						}
						if got := ulp.Add(b, a, dir); !same(got, want) {
							t.Errorf("Add(%g, %g, %d) = %g, want %g", b, a, dir, got, want)
						}
					}
				}
			}
		}
	}
}

func checkRoot(t *testing.T, a float64) {
	t.Helper()
	want := rounded(rootOf{whole(numberOf(a))})
	for _, dir := range allDirs {
		if got := ulp.Sqrt(a, dir); !same(got, want[column(dir)]) {
			t.Errorf("Sqrt(%g, %d) = %g, want %g", a, dir, got, want[column(dir)])
		}
	}
}

func TestSqrt(t *testing.T) {
	for _, a := range edgeAmounts() {
		checkRoot(t, a)
	}
	checkRoot(t, minus0)
	draw := chance(5)
	for range 1500 {
		checkRoot(t, math.Abs(draw()))
	}
	for n := range 300 { // squares have exact roots, their neighbours have none
		square := float64(n*n) * powerOf2(2*(n-150))
		checkRoot(t, square)
		checkRoot(t, ulp.Next(square))
	}
	wide := powerOf2(26) + 1 // a square of 53 bits
	checkRoot(t, wide*wide)
}

func TestSqrtHasNone(t *testing.T) {
	for _, dir := range allDirs {
		for _, a := range []float64{-least, -powerOf2(-1022), -1, -greatest, -inf, nan, -nan} {
			if got := ulp.Sqrt(a, dir); !math.IsNaN(got) {
				t.Errorf("Sqrt(%g, %d) = %g, want NAN", a, dir, got)
			}
		}
		if got := ulp.Sqrt(inf, dir); got != inf {
			t.Errorf("Sqrt(+Inf, %d) = %g", dir, got)
		}
	}
}

func TestNoNumberGivesNone(t *testing.T) {
	nans := []float64{nan, -nan, math.Float64frombits(0x7FF0000000000001), math.Float64frombits(0xFFF8000000000000)}
	for _, o := range operations() {
		for _, dir := range allDirs {
			for _, n := range nans {
				for _, x := range append(edges(), inf, -inf, nan) {
					if got := o.call(n, x, dir); !math.IsNaN(got) {
						t.Errorf("%s(NAN, %g, %d) = %g", o.name, x, dir, got)
					}
					if got := o.call(x, n, dir); !math.IsNaN(got) {
						t.Errorf("%s(%g, NAN, %d) = %g", o.name, x, dir, got)
					}
				}
			}
		}
	}
	for _, dir := range allDirs {
		for _, x := range append(edges(), inf, -inf) {
			for _, zero := range []float64{0, minus0} {
				if got := ulp.Div(x, zero, dir); !math.IsNaN(got) {
					t.Errorf("Div(%g, %g, %d) = %g", x, zero, dir, got)
				}
			}
		}
	}
}

// bySigns is the infinite one that a product or a quotient of a and b is.
func bySigns(a, b float64) float64 {
	if (a < 0) != (b < 0) {
		return -inf
	}
	return inf
}

func TestInfinite(t *testing.T) {
	check := func(name string, a, b float64, dir int, got, want float64) {
		t.Helper()
		if !same(got, want) {
			t.Errorf("%s(%g, %g, %d) = %g, want %g", name, a, b, dir, got, want)
		}
	}
	for _, dir := range allDirs {
		for _, i := range []float64{inf, -inf} {
			for _, x := range edges() {
				check("Add", i, x, dir, ulp.Add(i, x, dir), i)
				check("Add", x, i, dir, ulp.Add(x, i, dir), i)
				check("Sub", i, x, dir, ulp.Sub(i, x, dir), i)
				check("Sub", x, i, dir, ulp.Sub(x, i, dir), -i)
				check("Div", x, i, dir, ulp.Div(x, i, dir), 0)
				if x == 0 {
					check("Mul", i, x, dir, ulp.Mul(i, x, dir), 0)
					check("Mul", x, i, dir, ulp.Mul(x, i, dir), 0)
					continue
				}
				check("Mul", i, x, dir, ulp.Mul(i, x, dir), bySigns(i, x))
				check("Mul", x, i, dir, ulp.Mul(x, i, dir), bySigns(x, i))
				check("Div", i, x, dir, ulp.Div(i, x, dir), bySigns(i, x))
			}
			check("Add", i, i, dir, ulp.Add(i, i, dir), i)
			check("Add", i, -i, dir, ulp.Add(i, -i, dir), nan)
			check("Sub", i, i, dir, ulp.Sub(i, i, dir), nan)
			check("Sub", i, -i, dir, ulp.Sub(i, -i, dir), i)
			check("Mul", i, i, dir, ulp.Mul(i, i, dir), inf)
			check("Mul", i, -i, dir, ulp.Mul(i, -i, dir), -inf)
			check("Div", i, i, dir, ulp.Div(i, i, dir), nan)
			check("Div", i, -i, dir, ulp.Div(i, -i, dir), nan)
		}
	}
}

// checkSides is P1.6 of one number, by its answers down, near and up, and those of its negative.
func checkSides(t *testing.T, what string, x, negative [3]float64) {
	t.Helper()
	if x[0] > x[1] || x[1] > x[2] {
		t.Errorf("%s: out of order: %g", what, x)
	}
	if x[0] != x[2] && ulp.Next(x[0]) != x[2] {
		t.Errorf("%s: no neighbours: %g", what, x)
	}
	if x[1] != x[0] && x[1] != x[2] {
		t.Errorf("%s: the nearest is neither: %g", what, x)
	}
	if mirrored(x) != negative {
		t.Errorf("%s: no mirror: %g, %g", what, x, negative)
	}
}

// sides are a call's answers down, near and up.
func sides(call func(dir int) float64) [3]float64 {
	return [3]float64{call(-1), call(0), call(1)}
}

func TestSidesFitTogether(t *testing.T) {
	draw := chance(6)
	pairs := [][2]float64{}
	for _, a := range edges() {
		for _, b := range edges() {
			pairs = append(pairs, [2]float64{a, b})
		}
	}
	for range 20000 {
		pairs = append(pairs, [2]float64{draw(), draw()})
	}
	for _, p := range pairs {
		a, b := p[0], p[1]
		checkSides(t, "Add", sides(func(dir int) float64 { return ulp.Add(a, b, dir) }), sides(func(dir int) float64 { return ulp.Add(-a, -b, dir) }))
		checkSides(t, "Sub", sides(func(dir int) float64 { return ulp.Sub(a, b, dir) }), sides(func(dir int) float64 { return ulp.Sub(b, a, dir) }))
		checkSides(t, "Mul", sides(func(dir int) float64 { return ulp.Mul(a, b, dir) }), sides(func(dir int) float64 { return ulp.Mul(-a, b, dir) }))
		if b != 0 {
			checkSides(t, "Div", sides(func(dir int) float64 { return ulp.Div(a, b, dir) }), sides(func(dir int) float64 { return ulp.Div(a, -b, dir) }))
		}
		m := math.Float64bits(a) ^ math.Float64bits(b)<<7
		e := int(place(b)>>40) / 1000
		checkSides(t, "Round", sides(func(dir int) float64 { return ulp.Round(api.Parts{M: m, E: e}, dir) }), sides(func(dir int) float64 { return ulp.Round(api.Parts{Neg: true, M: m, E: e}, dir) }))
		root := sides(func(dir int) float64 { return ulp.Sqrt(math.Abs(a), dir) })
		checkSides(t, "Sqrt", root, mirrored(root))
	}
}

// TestEveryCallEnds goes through what may be handed in, wherever it may: a panic would fail it; no answer is -0.
func TestEveryCallEnds(t *testing.T) {
	plain := func(x float64) {
		if x == 0 && math.Signbit(x) {
			t.Error("-0 is answered")
		}
	}
	floats := append(edges(), inf, -inf, nan, -nan, math.Float64frombits(1<<63|0x7FF<<52|1))
	for _, a := range floats {
		plain(ulp.Next(a))
		plain(ulp.Prev(a))
		ulp.Split(a)
		for _, dir := range allDirs {
			plain(ulp.Sqrt(a, dir))
			for _, b := range floats {
				for _, o := range operations() {
					plain(o.call(a, b, dir))
				}
			}
		}
	}
	for _, m := range append(edgeWords(), 0) {
		for _, e := range []int{math.MinInt, math.MinInt + 1, math.MinInt + 64, -1 << 30, -1200, -1074, -1, 0, 1, 971, 1200, 1 << 30, math.MaxInt - 64, math.MaxInt - 1, math.MaxInt} {
			for _, dir := range allDirs {
				plain(ulp.Round(api.Parts{M: m, E: e}, dir))
				plain(ulp.Round(api.Parts{Neg: true, M: m, E: e}, dir))
			}
		}
	}
}

// TestExamples has all rows of the chapter's table.
func TestExamples(t *testing.T) {
	tiny := powerOf2(-60)
	for n, c := range []struct{ got, want float64 }{
		{ulp.Next(0), powerOf2(-1074)},
		{ulp.Prev(0), -powerOf2(-1074)},
		{ulp.Next(greatest), inf},
		{ulp.Prev(inf), greatest},
		{ulp.Add(1, tiny, -1), 1},
		{ulp.Add(1, tiny, 1), 1 + powerOf2(-52)},
		{ulp.Add(1, tiny, 0), 1},
		{ulp.Add(greatest, greatest, -1), greatest},
		{ulp.Add(greatest, greatest, 1), inf},
		{ulp.Mul(0, inf, 1), 0},
		{ulp.Div(1, 3, -1), math.Ldexp(6004799503160661, -54)},
		{ulp.Div(1, 3, 1), math.Ldexp(6004799503160662, -54)},
		{ulp.Sqrt(4, 1), 2},
		{ulp.Sqrt(2, -1), math.Ldexp(6369051672525772, -52)},
		{ulp.Sqrt(-1, 0), nan},
		{ulp.Round(api.Parts{M: 1, E: -1080}, 1), powerOf2(-1074)},
		{ulp.Round(api.Parts{Neg: true, M: 1, E: -1080}, 1), 0},
	} {
		if !same(c.got, c.want) {
			t.Errorf("example %d: %g, want %g", n, c.got, c.want)
		}
	}
	if p, is := ulp.Split(-1.5); !is || p != (api.Parts{Neg: true, M: 3 << 51, E: -52}) {
		t.Errorf("Split(-1.5) = %v, %v", p, is)
	}
}
