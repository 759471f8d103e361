package ival

import (
	"math"

	"orrery/api"
	"orrery/ulp"
)

// Has tells whether v is a finite number that x holds.
func Has(x api.Ival, v float64) bool {
	return !someEmpty(x) && !math.IsInf(v, 0) && x.Lo <= v && v <= x.Hi
}

// Inside tells whether y holds all that x holds.
func Inside(x, y api.Ival) bool {
	if someEmpty(x) {
		return true
	}
	return !someEmpty(y) && y.Lo <= x.Lo && x.Hi <= y.Hi
}

// Strict tells whether x lies in y with room at both ends.
func Strict(x, y api.Ival) bool {
	if someEmpty(x) {
		return true
	}
	return !someEmpty(y) && roomBelow(x.Lo, y.Lo) && roomBelow(-x.Hi, -y.Hi)
}

// roomBelow takes an end that is infinite to have room, even below another such.
func roomBelow(inner, outer float64) bool { return math.IsInf(outer, -1) || outer < inner }

// Mid is a float of x that is near to its middle.
func Mid(x api.Ival) float64 {
	if someEmpty(x) {
		return 0
	}
	lo, hi := max(x.Lo, -math.MaxFloat64), min(x.Hi, math.MaxFloat64)
	middle := ulp.Add(ulp.Div(lo, 2, nearest), ulp.Div(hi, 2, nearest), nearest)
	return min(max(middle, lo), hi) // halves of the least floats are rounded: their sum may lie outside
}

// Wid is how wide x is, rounded up.
func Wid(x api.Ival) float64 {
	if someEmpty(x) {
		return 0
	}
	return ulp.Sub(x.Hi, x.Lo, up)
}

// Mag is the greatest amount of a number in x.
func Mag(x api.Ival) float64 {
	if someEmpty(x) {
		return 0
	}
	return max(math.Abs(x.Lo), math.Abs(x.Hi))
}

// Mig is the least amount of a number in x.
func Mig(x api.Ival) float64 {
	if someEmpty(x) || Has(x, 0) {
		return 0
	}
	return min(math.Abs(x.Lo), math.Abs(x.Hi))
}
