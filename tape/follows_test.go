package tape_test

import (
	"math"
	"math/big"
	"math/rand"
	"slices"
	"testing"

	"orrery/api"
	"orrery/ival"
	"orrery/tape"
)

// everyOut is a tape that tells all its operations.
func everyOut(s api.Tape) api.Tape {
	s.Outs = nil
	for i := range s.Ops {
		s.Outs = append(s.Outs, i)
	}
	return s
}

// runs draws tapes with values and slopes on some box, and hands each of them on, until there were so many.
func runs(r *rand.Rand, kinds []int, longest, many int, each func(s api.Tape, x, values box, slopes []box)) {
	for n := 0; many > 0; n++ {
		vars := 1 + n%3
		s := everyOut(someTape(r, kinds, vars, vars+1+n%longest, 0, 3))
		x := someBox(r, vars)
		values, slopes, e := tape.Grad(s, x)
		if e == api.OK {
			many--
			each(s, x, values, slopes)
		}
	}
}

// TestHeldExactly is P5.5 for operations of arithmetic: values and slopes hold the exact ones.
func TestHeldExactly(t *testing.T) {
	r := chance(56)
	exact := exactField()
	runs(r, kindsUpTo(api.TPow), 6, 1500, func(s api.Tape, x, values box, slopes []box) {
		for range 4 {
			p, lits := allExactly(someInAll(r, x)), allExactly(someLits(r, s))
			v, d := exact.at(s, p, lits)
			for i := range s.Ops {
				if !holds(values[i], v[i]) {
					t.Errorf("%v on %v: the value %d is %v, without %v", s, x, i, values[i], v[i])
				}
				for j := range x {
					if !holds(slopes[i][j], d[i][j]) {
						t.Errorf("%v on %v: the slope %d by %d is %v, without %v", s, x, i, j, slopes[i][j], d[i][j])
					}
				}
			}
		}
	})
}

// reach is the least and the greatest sum of slopes times how far two vectors are apart.
func reach(slopes box, p, q []number) (lo, hi number) {
	lo, hi = new(big.Rat), new(big.Rat)
	for j, x := range slopes {
		apart := new(big.Rat).Sub(q[j], p[j])
		a, b := new(big.Rat).Mul(exactly(x.Lo), apart), new(big.Rat).Mul(exactly(x.Hi), apart)
		if a.Cmp(b) > 0 {
			a, b = b, a
		}
		lo.Add(lo, a)
		hi.Add(hi, b)
	}
	return lo, hi
}

// TestNoFartherThanSlopes is P5.5: between two vectors of a box, exactly.
func TestNoFartherThanSlopes(t *testing.T) {
	r := chance(57)
	exact := exactField()
	runs(r, kindsUpTo(api.TPow), 6, 1500, func(s api.Tape, x, _ box, slopes []box) {
		lits := allExactly(someLits(r, s))
		p, q := allExactly(someInAll(r, x)), allExactly(someInAll(r, x))
		v, _ := exact.at(s, p, lits)
		w, _ := exact.at(s, q, lits)
		for i := range s.Ops {
			lo, hi := reach(slopes[i], p, q)
			if differ := new(big.Rat).Sub(w[i], v[i]); differ.Cmp(lo) < 0 || differ.Cmp(hi) > 0 {
				t.Errorf("%v on %v: from %v to %v the value %d differs by %v", s, x, p, q, i, differ)
			}
		}
	})
}

// nearlyHeld leaves some room, as floats are rounded.
func nearlyHeld(x api.Ival, v float64) bool {
	room := 1e-9 * max(1, math.Abs(v))
	return x.Lo-room <= v && v <= x.Hi+room
}

// TestHeldNearly is P5.5 for all kinds, as closely as floats tell.
func TestHeldNearly(t *testing.T) {
	r := chance(58)
	floats := floatField()
	seen := map[int]int{}
	runs(r, kindsUpTo(api.TAtan), 6, 5000, func(s api.Tape, x, values box, slopes []box) {
		p, q, lits := someInAll(r, x), someInAll(r, x), someLits(r, s)
		v, d := floats.at(s, p, lits)
		w, _ := floats.at(s, q, lits)
		for i, o := range s.Ops {
			seen[o.Kind]++
			if ival.Mag(values[i]) > 1e4 {
				return // too steep for floats
			}
			if !nearlyHeld(values[i], v[i]) {
				t.Errorf("%v on %v at %v: the value %d is %v, without %v", s, x, p, i, values[i], v[i])
			}
			between := point(0)
			for j := range x {
				if !nearlyHeld(slopes[i][j], d[i][j]) {
					t.Errorf("%v on %v at %v: the slope %d by %d is %v, without %v", s, x, p, i, j, slopes[i][j], d[i][j])
				}
				between = ival.Add(between, ival.Mul(slopes[i][j], ival.Sub(point(q[j]), point(p[j]))))
			}
			if !nearlyHeld(between, w[i]-v[i]) {
				t.Errorf("%v on %v from %v to %v: the value %d differs by %v", s, x, p, q, i, w[i]-v[i])
			}
		}
	})
	for kind := api.TConst; kind <= api.TAtan; kind++ {
		if seen[kind] < 100 {
			t.Errorf("kind %d was there %d times", kind, seen[kind])
		}
	}
}

// someWithin is an interval in x.
func someWithin(r *rand.Rand, x api.Ival) api.Ival {
	a, b := someIn(r, x), someIn(r, x)
	return iv(min(a, b), max(a, b))
}

// fits asks for each value and slope of a smaller box whether it fits that of the greater one.
func fits(t *testing.T, s api.Tape, x, y, values box, slopes []box, fit func(small, great api.Ival) bool) {
	t.Helper()
	v, d, e := tape.Grad(s, y)
	if e != api.OK {
		t.Errorf("%v on %v has values, but on %v: %d", s, x, y, e)
		return
	}
	for i := range v {
		if !fit(v[i], values[i]) {
			t.Errorf("%v: the value %d is %v on %v, and %v on %v", s, i, v[i], y, values[i], x)
		}
		for j := range x {
			if !fit(d[i][j], slopes[i][j]) {
				t.Errorf("%v: the slope %d by %d is %v on %v, and %v on %v", s, i, j, d[i][j], y, slopes[i][j], x)
			}
		}
	}
}

// TestSmallerLieInGreater is P5.5 without TExp to TAtan.
func TestSmallerLieInGreater(t *testing.T) {
	r := chance(59)
	runs(r, kindsUpTo(api.TSqrt), 10, 3000, func(s api.Tape, x, values box, slopes []box) {
		var y box
		for _, z := range x {
			y = append(y, someWithin(r, z))
		}
		fits(t, s, x, y, values, slopes, ival.Inside)
	})
}

// TestSmallerMeetGreater is P5.5 with TExp to TAtan. Boxes near to where something is outside are left out: there a smaller one need not be told.
func TestSmallerMeetGreater(t *testing.T) {
	r := chance(60)
	meet := func(small, great api.Ival) bool { return ival.Meet(small, great) != none }
	told := 0
	runs(r, kindsUpTo(api.TAtan), 10, 3000, func(s api.Tape, x, values box, slopes []box) {
		var y box
		for _, z := range x {
			y = append(y, someWithin(r, z))
		}
		if _, _, e := tape.Grad(s, y); e == api.OK {
			told++
			fits(t, s, x, y, values, slopes, meet)
		}
	})
	if told < 2900 {
		t.Errorf("both were told %d times", told)
	}
}

// TestTrimKeeps is P5.6: values and slopes, bit by bit; and what was trimmed stays.
func TestTrimKeeps(t *testing.T) {
	r := chance(61)
	told := map[api.Errno]int{}
	for n := range 8000 {
		vars := n % 3
		s := someTape(r, kindsUpTo([]int{api.TMul, api.TPow, api.TAtan}[n%3]), vars, vars+1+n%25, 1+n%5, 2)
		trimmed, e := tape.Trim(s)
		if e != api.OK || tape.Right(trimmed) != api.OK {
			t.Fatalf("Trim(%v) = %v, %d", s, trimmed, e)
		}
		if again, e := tape.Trim(trimmed); e != api.OK || !sameTape(again, trimmed) {
			t.Errorf("Trim(%v) = %v, %d", trimmed, again, e)
		}
		x := someBox(r, vars)
		want, e := tape.Eval(s, x)
		if got, f := tape.Eval(trimmed, x); e == api.OK && (f != api.OK || !slices.Equal(got, want)) {
			t.Errorf("Eval of %v and %v on %v: %v and %v, %d", s, trimmed, x, want, got, f)
		}
		want, slopes, e := tape.Grad(s, x)
		told[e]++
		if got, d, f := tape.Grad(trimmed, x); e == api.OK && (f != api.OK || !slices.Equal(got, want) || !sameRows(d, slopes)) {
			t.Errorf("Grad of %v and %v on %v: %v, %v and %v, %v, %d", s, trimmed, x, want, slopes, got, d, f)
		}
	}
	if told[api.OK] < 2000 {
		t.Error("what was told:", told)
	}
}
