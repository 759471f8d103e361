package elem

import (
	"math"

	"orrery/api"
	"orrery/ival"
)

// Beyond these, e's powers are above MAX, and below all floats but 0.
const (
	aboveAllPowers = 710
	belowAllPowers = -746
)

// rootOfHalf is where fractions are parted, so that their logarithms are small to both sides of 0.
const rootOfHalf = 0x1.6a09e667f3bcdp-1

// Exp holds e to the powers of all numbers in x.
func Exp(x api.Ival) api.Ival { return rising(x, expAt) }

// Log holds the natural logarithms of all numbers in x that are above 0.
func Log(x api.Ival) api.Ival {
	x = ival.Meet(x, ival.Make(0, math.Inf(1)))
	if x.Hi <= 0 { // also of the empty one
		return ival.Empty()
	}
	return rising(x, logAt)
}

func expAt(v float64) api.Ival {
	switch {
	case v > aboveAllPowers:
		return ival.Make(math.MaxFloat64, math.Inf(1))
	case v < belowAllPowers:
		return ival.Make(0, math.SmallestNonzeroFloat64)
	}
	k := near(ival.Div(ival.Point(v), Ln2()))
	return scaled(powersOfE(fineLn2().takenOff(v, k)), k)
}

// scaled is x times 2^k, in two steps: that power alone may be no float.
func scaled(x api.Ival, k int) api.Ival {
	half := k / 2
	return ival.Mul(ival.Mul(x, powerOfTwo(half)), powerOfTwo(k-half))
}

// logAt takes no v below 0.
func logAt(v float64) api.Ival {
	if v == 0 || math.IsInf(v, 1) {
		return ival.Whole() // no float bounds it there
	}
	fraction, k := math.Frexp(v)
	if fraction < rootOfHalf {
		fraction, k = 2*fraction, k-1
	}
	return fineLn2().putTo(logNearOne(ival.Point(fraction)), k)
}

// logNearOne holds the logarithm of m, from the root of 1/2 to that of 2: twice the area tangent of s = (m - 1) / (m + 1), whose amount is below 0.18. Where m is near to 1, m - 1 is not rounded.
func logNearOne(m api.Ival) api.Ival {
	one := ival.Point(1)
	s := ival.Div(ival.Sub(m, one), ival.Add(m, one))
	return ival.Mul(ival.Mul(ival.Point(2), s), oddShares(ival.Sqr(s)))
}
