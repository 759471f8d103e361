package ival_test

import (
	"math"
	"testing"

	"orrery/api"
	"orrery/ival"
)

func TestHas(t *testing.T) {
	for _, x := range manyEdges() {
		for _, v := range []float64{x.Lo, x.Hi, math.Nextafter(x.Lo, -inf), math.Nextafter(x.Lo, inf), math.Nextafter(x.Hi, -inf), math.Nextafter(x.Hi, inf), 0, minus0, 1, -1, greatest, -greatest} {
			want := !math.IsInf(v, 0) && held(numberOf(v), x)
			if got := ival.Has(x, v); got != want {
				t.Errorf("Has(%g, %g) = %v", x, v, got)
			}
		}
		for _, v := range []float64{inf, -inf, nan, -nan} {
			if ival.Has(x, v) {
				t.Errorf("Has(%g, %g)", x, v)
			}
		}
	}
}

// allHeld tells whether y holds all of x: one of x that is beyond all floats lies in no y that has an end there.
func allHeld(x, y api.Ival) bool {
	for _, v := range members(x) {
		if !held(v, y) {
			return false
		}
	}
	return true
}

func TestInside(t *testing.T) {
	for _, x := range edges() {
		for _, y := range edges() {
			if got := ival.Inside(x, y); got != allHeld(x, y) {
				t.Errorf("Inside(%g, %g) = %v", x, y, got)
			}
		}
	}
}

func TestStrict(t *testing.T) {
	for _, x := range edges() {
		for _, y := range edges() {
			want := x == none || y != none && (y.Lo == -inf || y.Lo < x.Lo) && (y.Hi == inf || y.Hi > x.Hi)
			if got := ival.Strict(x, y); got != want {
				t.Errorf("Strict(%g, %g) = %v", x, y, got)
			}
		}
	}
	for _, c := range []struct {
		x, y api.Ival
		want bool
	}{
		{none, none, true},
		{none, iv(1, 1), true},
		{iv(1, 1), none, false},
		{all, all, true},
		{iv(1, 1), iv(1, 1), false},
		{iv(1, 2), iv(0, 2), false},
		{iv(1, 2), iv(1, 3), false},
		{iv(1, 2), iv(math.Nextafter(1, 0), math.Nextafter(2, 3)), true},
		{iv(-inf, 2), iv(-inf, 3), true},
		{iv(-inf, 2), iv(-inf, 2), false},
		{iv(-inf, 2), iv(-greatest, 3), false},
		{iv(1, inf), iv(0, inf), true},
		{iv(1, inf), iv(1, inf), false},
		{iv(1, inf), iv(0, greatest), false},
		{iv(1, 2), iv(-1, 1.5), false},
		{iv(1, 2), iv(5, 6), false},
		{iv(0, 0), iv(-least, least), true},
		{iv(0, 0), iv(0, least), false},
	} {
		if got := ival.Strict(c.x, c.y); got != c.want {
			t.Errorf("Strict(%g, %g) = %v", c.x, c.y, got)
		}
	}
}

func midByWords(x api.Ival) float64 {
	lo, hi := max(x.Lo, -greatest), min(x.Hi, greatest)
	two := numberOf(2)
	low, high := roundedTo(quotient(numberOf(lo), two), 0), roundedTo(quotient(numberOf(hi), two), 0)
	middle := roundedTo(sum(numberOf(low), numberOf(high)), 0)
	switch {
	case middle < lo:
		return lo
	case middle > hi:
		return hi
	}
	return middle
}

func TestMid(t *testing.T) {
	for _, x := range someOf(10) {
		want := midByWords(x)
		if got := ival.Mid(x); !same(got, want) {
			t.Errorf("Mid(%g) = %g, want %g", x, got, want)
		}
	}
	for _, c := range []struct {
		x    api.Ival
		want float64
	}{
		{iv(least, least), least},         // its halves are 0
		{iv(-least, -least), -least},      // and so are these
		{iv(least, 2*least), least},       // 0 and least
		{iv(3*least, 3*least), 3 * least}, // its halves are 2 least
		{iv(-3*least, -3*least), -3 * least},
		{iv(-least, least), 0},
		{iv(greatest, greatest), greatest},
		{iv(greatest, inf), greatest},
		{iv(-inf, -greatest), -greatest},
		{iv(0, inf), greatest / 2},
		{iv(-inf, 0), -greatest / 2},
		{iv(1, 1+0x1p-52), 1}, // equally near: to the even one
		{iv(1+0x1p-52, 1+0x1p-51), 1 + 0x1p-51},
		{none, 0},
	} {
		if got := ival.Mid(c.x); !same(got, c.want) {
			t.Errorf("Mid(%g) = %g, want %g", c.x, got, c.want)
		}
	}
}

// someOf are edges and draws, none of them empty.
func someOf(seed int64) []api.Ival {
	var out []api.Ival
	for _, x := range manyEdges() {
		if x != none {
			out = append(out, x)
		}
	}
	draw := chance(seed)
	for range 3000 {
		out = append(out, draw())
	}
	return out
}

func TestWid(t *testing.T) {
	for _, x := range someOf(11) {
		want := inf
		if !math.IsInf(x.Lo, 0) && !math.IsInf(x.Hi, 0) {
			want = roundedTo(difference(numberOf(x.Hi), numberOf(x.Lo)), 1)
		}
		if got := ival.Wid(x); !same(got, want) {
			t.Errorf("Wid(%g) = %g, want %g", x, got, want)
		}
	}
	if got := ival.Wid(none); !same(got, 0) {
		t.Errorf("Wid(empty) = %g", got)
	}
}

func TestMagAndMig(t *testing.T) {
	for _, x := range someOf(12) {
		mig, mag := inf, 0.0
		for _, v := range members(x) {
			amount := fresh().Abs(v)
			mag = max(mag, roundedTo(amount, 1))
			mig = min(mig, roundedTo(amount, -1))
		}
		if got := ival.Mag(x); !same(got, mag) {
			t.Errorf("Mag(%g) = %g, want %g", x, got, mag)
		}
		if got := ival.Mig(x); !same(got, mig) {
			t.Errorf("Mig(%g) = %g, want %g", x, got, mig)
		}
	}
	if !same(ival.Mag(none), 0) || !same(ival.Mig(none), 0) {
		t.Error("Mag or Mig of the empty one")
	}
}
