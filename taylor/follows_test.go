package taylor_test

import (
	"math/big"
	"math/rand"
	"testing"

	"orrery/api"
	"orrery/ival"
	"orrery/taylor"
)

// runs draws fields with coefficients and slopes on some box, and hands each of them on, until there were so many.
func runs(t *testing.T, r *rand.Rand, kinds []int, most, order, many int, each func(s api.Tape, x box, order int, coefs []box, slopes [][]box)) {
	t.Helper()
	for n, last := 0, 20*many; many > 0; n++ {
		if n == last {
			t.Fatal("too few fields have slopes")
		}
		vars := 1 + n%3
		s, x := someField(r, kinds, vars, 1+n%most, 3), someBox(r, vars)
		coefs, slopes, e := taylor.Slopes(s, x, 1+n%order)
		if e == api.OK {
			many--
			each(s, x, 1+n%order, coefs, slopes)
		}
	}
}

// TestHeldExactly is P6.2 and P6.3 for operations of arithmetic: coefficients and slopes hold the exact ones.
func TestHeldExactly(t *testing.T) {
	r := chance(65)
	exact := exactRing()
	runs(t, r, kindsUpTo(api.TPow), 5, 4, 600, func(s api.Tape, x box, order int, coefs []box, slopes [][]box) {
		p, lits := allExactly(someInAll(r, x)), allExactly(someLits(r, s))
		c, d := exact.solution(s, p, lits, order), slopedSolution(exact, s, p, lits, order)
		for k := range c {
			for i := range x {
				if !holds(coefs[k][i], c[k][i]) {
					t.Errorf("%v on %v: the coefficient %d of %d is %v, without %v", s, x, k, i, coefs[k][i], c[k][i])
				}
				for j := range x {
					if !holds(slopes[k][i][j], d[k][i][j]) {
						t.Errorf("%v on %v: the slope %d of %d by %d is %v, without %v", s, x, k, i, j, slopes[k][i][j], d[k][i][j])
					}
				}
			}
		}
	})
}

// reach is the least and the greatest sum of slopes times how far two beginnings are apart.
func reach(slopes box, p, q []number) (lo, hi number) {
	lo, hi = new(big.Rat), new(big.Rat)
	for j, x := range slopes {
		apart := new(big.Rat).Sub(q[j], p[j])
		a, b := new(big.Rat).Mul(exactly(x.Lo), apart), new(big.Rat).Mul(exactly(x.Hi), apart)
		if a.Cmp(b) > 0 {
			a, b = b, a
		}
		lo.Add(lo, a)
		hi.Add(hi, b)
	}
	return lo, hi
}

// TestNoFartherThanSlopes is P6.3: between two beginnings in a box, exactly.
func TestNoFartherThanSlopes(t *testing.T) {
	r := chance(66)
	exact := exactRing()
	runs(t, r, kindsUpTo(api.TPow), 5, 4, 600, func(s api.Tape, x box, order int, _ []box, slopes [][]box) {
		lits := allExactly(someLits(r, s))
		p, q := allExactly(someInAll(r, x)), allExactly(someInAll(r, x))
		c, d := exact.solution(s, p, lits, order), exact.solution(s, q, lits, order)
		for k := range c {
			for i := range x {
				lo, hi := reach(slopes[k][i], p, q)
				if differ := new(big.Rat).Sub(d[k][i], c[k][i]); differ.Cmp(lo) < 0 || differ.Cmp(hi) > 0 {
					t.Errorf("%v on %v: from %v to %v the coefficient %d of %d differs by %v", s, x, p, q, k, i, differ)
				}
			}
		}
	})
}

// tooSteep tells where floats are too coarse to ask.
func tooSteep(coefs []box) bool {
	for _, row := range coefs {
		for _, x := range row {
			if ival.Mag(x) > 1e3 {
				return true
			}
		}
	}
	return false
}

// TestHeldNearly is P6.2 and P6.3 for all kinds, as closely as floats tell.
func TestHeldNearly(t *testing.T) {
	r := chance(67)
	floats := floatRing()
	seen := map[int]int{}
	runs(t, r, kindsUpTo(api.TAtan), 5, 6, 4000, func(s api.Tape, x box, order int, coefs []box, slopes [][]box) {
		if tooSteep(coefs) {
			return
		}
		for _, o := range s.Ops {
			seen[o.Kind]++
		}
		p, q, lits := someInAll(r, x), someInAll(r, x), someLits(r, s)
		c, d := floats.solution(s, p, lits, order), slopedSolution(floats, s, p, lits, order)
		other := floats.solution(s, q, lits, order)
		for k := range c {
			for i := range x {
				if !nearlyHeld(coefs[k][i], c[k][i]) {
					t.Errorf("%v on %v at %v: the coefficient %d of %d is %v, without %v", s, x, p, k, i, coefs[k][i], c[k][i])
				}
				between := point(0)
				for j, slope := range slopes[k][i] {
					if !nearlyHeld(slope, d[k][i][j]) {
						t.Errorf("%v on %v at %v: the slope %d of %d by %d is %v, without %v", s, x, p, k, i, j, slope, d[k][i][j])
					}
					between = ival.Add(between, ival.Mul(slope, ival.Sub(point(q[j]), point(p[j]))))
				}
				if !nearlyHeld(between, other[k][i]-c[k][i]) {
					t.Errorf("%v on %v from %v to %v: the coefficient %d of %d differs by %v", s, x, p, q, k, i, other[k][i]-c[k][i])
				}
			}
		}
	})
	for kind := api.TConst; kind <= api.TAtan; kind++ {
		if seen[kind] < 100 {
			t.Errorf("kind %d was there %d times", kind, seen[kind])
		}
	}
}

// fits asks for each coefficient of a smaller box whether it fits that of the greater one.
func fits(t *testing.T, s api.Tape, x, y box, small, great []box, fit func(small, great api.Ival) bool) {
	t.Helper()
	for k := range great {
		for i := range x {
			if !fit(small[k][i], great[k][i]) {
				t.Errorf("%v: the coefficient %d of %d is %v on %v, and %v on %v", s, k, i, small[k][i], y, great[k][i], x)
			}
		}
	}
}

func smaller(r *rand.Rand, x box) box {
	var y box
	for _, z := range x {
		y = append(y, someWithin(r, z))
	}
	return y
}

// TestSmallerLieInGreater is P6.3 without TExp to TAtan.
func TestSmallerLieInGreater(t *testing.T) {
	r := chance(68)
	runs(t, r, kindsUpTo(api.TSqrt), 8, 6, 3000, func(s api.Tape, x box, order int, coefs []box, _ [][]box) {
		y := smaller(r, x)
		c, e := taylor.Coefs(s, y, order)
		if e != api.OK {
			t.Errorf("%v on %v has coefficients, but on %v: %d", s, x, y, e)
			return
		}
		fits(t, s, x, y, c, coefs, ival.Inside)
	})
}

// TestSmallerMeetGreater is P6.3 with TExp to TAtan, where both are told.
func TestSmallerMeetGreater(t *testing.T) {
	r := chance(69)
	told := 0
	runs(t, r, kindsUpTo(api.TAtan), 8, 6, 3000, func(s api.Tape, x box, order int, coefs []box, _ [][]box) {
		y := smaller(r, x)
		if c, e := taylor.Coefs(s, y, order); e == api.OK {
			told++
			fits(t, s, x, y, c, coefs, func(small, great api.Ival) bool { return ival.Meet(small, great) != none })
		}
	})
	if told < 2900 {
		t.Errorf("both were told %d times", told)
	}
}
