package picard_test

import (
	"math"
	"slices"
	"testing"

	"orrery/api"
	"orrery/elem"
	"orrery/ival"
)

// TestAnyField is P8.1 and P8.2 of fields by chance with one, two and three variables.
func TestAnyField(t *testing.T) {
	r := chance(82)
	seen := tally{}
	widely := 0
	for n := range 20000 {
		vars := 1 + n%3
		s := someField(r, []int{api.TPow, api.TAtan}[n%2], vars, vars+r.Intn(6))
		x := someBox(r, vars, 2)
		time := someTime(r)
		seen[ask(t, s, x, time).e]++
		if time > 0 && bounds(s, wideBox(x), x, time) {
			widely++
		}
	}
	seen.wants(t, 3000, api.OK, api.ErrBound)
	if widely < 3000 {
		t.Error("the wide box bounded only", widely)
	}
}

// TestShorterAndSmaller is P8.3: what was told bounds, too, for less time and from less.
func TestShorterAndSmaller(t *testing.T) {
	r := chance(83)
	asked := 0
	for n := range 6000 {
		vars := 1 + n%3
		s := someField(r, api.TAtan, vars, vars+r.Intn(6))
		x, time := someBox(r, vars, 2), someTime(r)
		a := ask(t, s, x, time)
		if a.e != api.OK {
			continue
		}
		asked++
		for _, shorter := range []float64{0, time / 2, time * r.Float64(), math.Nextafter(time, 0), time} {
			for _, y := range []box{x, someWithin(r, x), someWithin(r, x)} {
				if !bounds(s, a.box, y, shorter) {
					t.Errorf("Bound(%v, %v, %g) = %v does not bound from %v for %g", s, x, time, a.box, y, shorter)
				}
			}
		}
	}
	if asked < 2000 {
		t.Error("only so many bounded:", asked)
	}
}

// longestWide is the longest time for which the wide box bounds; none, if it does for none above 0.
func longestWide(s api.Tape, x box) float64 {
	wide := wideBox(x)
	if !bounds(s, wide, x, least) {
		return 0
	}
	low, high := math.Float64bits(least), math.Float64bits(0x1p20)
	if bounds(s, wide, x, 0x1p20) {
		return 0x1p20
	}
	for high-low > 1 {
		if middle := low + (high-low)/2; bounds(s, wide, x, math.Float64frombits(middle)) {
			low = middle
		} else {
			high = middle
		}
	}
	return math.Float64frombits(low)
}

// TestJustWide is P8.2 at the longest time for which the wide box bounds, and at the next float.
func TestJustWide(t *testing.T) {
	r := chance(84)
	asked := 0
	for n := range 4000 {
		vars := 1 + n%3
		s := someField(r, api.TAtan, vars, vars+r.Intn(6))
		x := someBox(r, vars, 2)
		time := longestWide(s, x)
		if time == 0 || time == 0x1p20 {
			continue
		}
		asked++
		if a := ask(t, s, x, time); a.e != api.OK {
			t.Errorf("%v from %v for %g: %v", s, x, time, a)
		}
		ask(t, s, x, math.Nextafter(time, inf))
		ask(t, s, x, math.Nextafter(time, 0))
	}
	if asked < 1000 {
		t.Error("only so many times:", asked)
	}
}

// waving is x' = sin(2^20 x) with all its values on whatever is not tiny; outside of room it has no rate.
func waving(room api.Ival) api.Tape {
	return api.Tape{Vars: 1, Ops: []op{
		variable(0), lit(0x1p20, 0x1p20), both(api.TMul, 0, 1), of(api.TSin, 2),
		lit(room.Hi, room.Hi), both(api.TSub, 4, 0), of(api.TSqrt, 5),
		lit(room.Lo, room.Lo), both(api.TSub, 0, 7), of(api.TSqrt, 8),
	}, Outs: []int{3}}
}

// TestWideAlone is P8.2 where no box bounds but the wide one, at a time, and none at all for the next float.
func TestWideAlone(t *testing.T) {
	for _, x := range []api.Ival{iv(0, 0x1p-20), iv(-1, 1), iv(-0.25, 0.5), point(1), iv(2, 3), iv(-7, -3)} {
		wide := wideBox(box{x})
		s := waving(wide[0])
		time := longestWide(s, box{x})
		if time < 0x1p-5 {
			t.Fatalf("from %v: only for %g", x, time)
		}
		if a := ask(t, s, box{x}, time); a.e != api.OK || !bounds(s, a.box, box{x}, time) {
			t.Errorf("from %v for %g: %v", x, time, a)
		}
		askError(t, "a little longer", s, box{x}, math.Nextafter(time, inf), api.ErrBound)
		askError(t, "far longer", s, box{x}, 2*time, api.ErrBound)
		free := waving(iv(-1000, 1000)) // there are other boxes as well, greater ones
		ask(t, free, box{x}, time)
		ask(t, free, box{x}, math.Nextafter(time, inf))
	}
}

// TestRatesOnXAlone: fields without rates on the wide box, though they have them on x. ErrBound would be right, but a short time is found.
func TestRatesOnXAlone(t *testing.T) {
	v := variable(0)
	for _, c := range []struct {
		name string
		s    api.Tape
		x    api.Ival
	}{
		{"1 / x", inverse(), iv(0x1p-6, 0x1p-5)},
		{"-log x", lastOf(v, of(api.TLog, 0), of(api.TNeg, 1)), iv(0x1p-6, 0x1p-5)},
		{"root of x, from 0", lastOf(v, of(api.TSqrt, 0)), iv(0, 1)},
		{"root of x, at 0", lastOf(v, of(api.TSqrt, 0)), point(0)},
		{"e^x, near its end", lastOf(v, lit(1000, 1000), both(api.TMul, 0, 1), of(api.TExp, 2), lit(1e-308, 1e-308), both(api.TMul, 3, 4)), point(0.709)},
	} {
		if bounds(c.s, wideBox(box{c.x}), box{c.x}, 0x1p-40) {
			t.Fatal(c.name, "has rates on the wide box")
		}
		for _, time := range []float64{least, 0x1p-40, 0x1p-20} {
			if a := ask(t, c.s, box{c.x}, time); a.e != api.OK {
				t.Errorf("%s from %v for %g: %v", c.name, c.x, time, a)
			}
		}
		ask(t, c.s, box{c.x}, 1)
		ask(t, c.s, box{c.x}, 0x1p20)
	}
}

// TestSquaresStay: solutions of x' = x x are b / (1 - b h), if they are there at all.
func TestSquaresStay(t *testing.T) {
	r := chance(85)
	seen := tally{}
	for range 3000 {
		x, time := someInterval(r, 3), someTime(r)
		a := ask(t, square(), box{x}, time)
		seen[a.e]++
		if a.e != api.OK {
			continue
		}
		for range 4 {
			begin, h := exactly(someIn(r, x)), exactly(someIn(r, iv(0, time)))
			left := minus(exactly(1), times(begin, h))
			if left.Sign() <= 0 {
				t.Errorf("from %v for %g there is none, but %v was told", x, time, a.box)
			} else if at := over(begin, left); !holds(a.box[0], at) {
				t.Errorf("from %v for %g: %v does not hold %v", x, time, a.box, at)
			}
		}
	}
	seen.wants(t, 200, api.OK, api.ErrBound)
}

// TestFallStays: solutions of x' = y, y' = z, z' = c are polynomials of time. No box is too far off for them.
func TestFallStays(t *testing.T) {
	r := chance(86)
	for range 2000 {
		c, x, time := eighths(r, 8), someBox(r, 3, 4), someTime(r)
		s := api.Tape{Vars: 3, Ops: []op{lit(c, c), variable(1), variable(2)}, Outs: []int{1, 2, 0}}
		a := ask(t, s, x, time)
		if a.e != api.OK {
			t.Errorf("from %v for %g: %v", x, time, a)
			continue
		}
		for range 4 {
			h, p := exactly(someIn(r, iv(0, time))), []number{}
			for _, v := range x {
				p = append(p, exactly(someIn(r, v)))
			}
			z := plus(p[2], times(h, exactly(c)))
			y := plus(p[1], times(h, plus(p[2], times(h, exactly(c/2)))))
			end := plus(p[0], times(h, plus(p[1], times(h, plus(over(p[2], exactly(2)), over(times(h, exactly(c)), exactly(6)))))))
			if !holds(a.box[0], end) || !holds(a.box[1], y) || !holds(a.box[2], z) {
				t.Errorf("x' = y, y' = z, z' = %g from %v for %g: %v does not hold %v %v %v", c, x, time, a.box, end, y, z)
			}
		}
	}
}

// TestTurningStays: solutions of x' = y, y' = -x keep their distance from 0, and turn by the time.
func TestTurningStays(t *testing.T) {
	r := chance(87)
	for range 2000 {
		x, time := someBox(r, 2, 3), r.Float64()/2
		a := ask(t, turning(), x, time)
		if a.e != api.OK {
			t.Errorf("from %v for %g: %v", x, time, a)
			continue
		}
		p, q, h := someIn(r, x[0]), someIn(r, x[1]), someIn(r, iv(0, time))
		s, c := math.Sincos(h)
		const room = 1e-12
		for i, v := range []float64{p*c + q*s, q*c - p*s} {
			if v < a.box[i].Lo-room || v > a.box[i].Hi+room {
				t.Errorf("from %v for %g: %v does not hold %g, of %g %g at %g", x, time, a.box, v, p, q, h)
			}
		}
	}
}

// TestLines: x' = A x + b is bounded, wherever time times the greatest sum of a row's amounts is at most 3/4: the box need not be the wide one.
func TestLines(t *testing.T) {
	r := chance(88)
	beyond := 0
	for n := range 3000 {
		vars := 1 + n%6
		a, b := make([][]float64, vars), make([]float64, vars)
		norm := 0.0
		for i := range a {
			sum := 0.0
			for range vars {
				v := float64(r.Intn(5) - 2)
				a[i] = append(a[i], v)
				sum += math.Abs(v)
			}
			norm = max(norm, sum)
			b[i] = float64(r.Intn(17) - 8)
		}
		s, x := lineOf(a, b), someBox(r, vars, 8)
		time := 0.75 / max(norm, 0x1p-10) * []float64{1, 0.5, 0.125, r.Float64()}[r.Intn(4)]
		if got := ask(t, s, x, time); got.e != api.OK {
			t.Errorf("%v, %v from %v for %g: %v", a, b, x, time, got)
		}
		if !bounds(s, wideBox(x), x, time) {
			beyond++
		}
	}
	if beyond < 1000 {
		t.Error("only so many beyond the wide box:", beyond)
	}
}

// TestNarrow: a box is not much wider than what solutions need, where they go nearly straight on.
func TestNarrow(t *testing.T) {
	for _, c := range []struct {
		s    api.Tape
		want api.Ival
		time float64
	}{
		{itself(), iv(1, math.Exp(0x1p-6)), 0x1p-6},
		{itself(), iv(1, math.Exp(0x1p-2)), 0x1p-2},
		{lastOf(variable(0), of(api.TNeg, 0)), iv(math.Exp(-0x1p-6), 1), 0x1p-6},
		{lastOf(variable(0), of(api.TSin, 0)), iv(1, 1.0133), 0x1p-6},
		{square(), iv(1, 1/(1-0x1p-6)), 0x1p-6},
	} {
		a := ask(t, c.s, points(1), c.time)
		if a.e != api.OK || ival.Wid(a.box[0]) > (1+2*c.time)*ival.Wid(c.want) {
			t.Errorf("%v for %g: %v, of which %v is needed", c.s, c.time, a, c.want)
		}
	}
}

// TestAtTheEndOfFloats: the wide box has no end there, and what is told has.
func TestAtTheEndOfFloats(t *testing.T) {
	far := points(greatest)
	if a := ask(t, constant(0), far, 1); a.e != api.OK || !slices.Equal(a.box, far) {
		t.Error("at rest:", a)
	}
	if a := ask(t, constant(-1), far, 1); a.e != api.OK || a.box[0].Hi != greatest {
		t.Error("back:", a)
	}
	if a := ask(t, constant(1e300), points(-greatest), 1); a.e != api.OK || a.box[0].Lo != -greatest {
		t.Error("back from below:", a)
	}
	ask(t, itself(), far, 0x1p-20)
	ask(t, itself(), points(greatest/2), 0x1p-20)
	if b := wideBox(far); b[0] != all {
		t.Error("the wide box has an end:", b)
	}
	askError(t, "beyond all floats", constant(1), far, 1, api.ErrBound) // no box with an end bounds
}

// wavering is a float whose angle is told lower than that of all numbers from the float below it to the one above.
func wavering(t *testing.T) float64 {
	r := chance(89)
	for range 10000 {
		a := 0.5 + r.Float64()/2
		if elem.Atan(point(a)).Lo < elem.Atan(iv(math.Nextafter(a, 0), math.Nextafter(a, 1))).Lo {
			return a
		}
	}
	t.Skip("angles waver nowhere")
	return 0
}

// TestWiderOnLess is P8.2 where the wide box has rates, as functions are told there, and x has none.
func TestWiderOnLess(t *testing.T) {
	a := wavering(t)
	under := elem.Atan(point(a)).Lo
	s := api.Tape{Vars: 1, Ops: []op{
		variable(0), lit(0x1p-80, 0x1p-80), both(api.TMul, 0, 1), lit(a, a), both(api.TAdd, 2, 3), // a at 0, else a and a float beside it
		of(api.TAtan, 4), lit(under, under), both(api.TSub, 5, 6), of(api.TLog, 7), lit(1, 1),
	}, Outs: []int{9}}
	askError(t, "no rate on x", s, points(0), 0, api.ErrBound)
	if a := ask(t, s, points(0), 0x1p-5); a.e != api.OK {
		t.Error("for a time:", a)
	}
}
