package elem

import (
	"math"

	"orrery/api"
	"orrery/ival"
)

// shortTangent is up to where the series of the angle is short.
const shortTangent = 0.25

// Atan holds the angles, from -pi/2 to pi/2, whose tangents are the numbers in x.
func Atan(x api.Ival) api.Ival { return rising(x, atanAt) }

func atanAt(v float64) api.Ival {
	halfPi := ival.Mul(ival.Point(0.5), Pi())
	switch {
	case v < 0:
		return ival.Neg(atanAt(-v))
	case math.IsInf(v, 1):
		return halfPi
	case v > 1:
		return ival.Sub(halfPi, atanUpToOne(ival.Div(ival.Point(1), ival.Point(v))))
	}
	return atanUpToOne(ival.Point(v))
}

// atanUpToOne takes a t from 0 to 1.
func atanUpToOne(t api.Ival) api.Ival {
	if ival.Mag(t) > shortTangent {
		return ival.Mul(ival.Point(2), atanUpToOne(halfAngle(t)))
	}
	return ival.Mul(t, oddShares(ival.Neg(ival.Sqr(t))))
}

// halfAngle is the tangent of half of the angle whose tangent is t: less than half of t.
func halfAngle(t api.Ival) api.Ival {
	one := ival.Point(1)
	longest := ival.Sqrt(ival.Add(one, ival.Sqr(t)))
	return ival.Div(t, ival.Add(one, longest))
}
