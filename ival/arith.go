package ival

import (
	"math"

	"orrery/api"
	"orrery/ulp"
)

// To which side ulp's calls round.
const (
	down    = -1
	nearest = 0
	up      = 1
)

// Hull is the least interval of what x and what y hold.
func Hull(x, y api.Ival) api.Ival {
	x, y = counted(x), counted(y)
	return api.Ival{Lo: min(x.Lo, y.Lo), Hi: max(x.Hi, y.Hi)} // the empty one's ends give way to all others
}

// Meet is the interval of what both hold.
func Meet(x, y api.Ival) api.Ival {
	if someEmpty(x, y) {
		return Empty()
	}
	return Make(max(x.Lo, y.Lo), min(x.Hi, y.Hi))
}

// Neg holds all -a, a in x.
func Neg(x api.Ival) api.Ival {
	if someEmpty(x) {
		return Empty()
	}
	return mirror(x)
}

// Add holds all a + b, a in x and b in y.
func Add(x, y api.Ival) api.Ival {
	if someEmpty(x, y) {
		return Empty()
	}
	return api.Ival{Lo: ulp.Add(x.Lo, y.Lo, down), Hi: ulp.Add(x.Hi, y.Hi, up)}
}

// Sub holds all a - b.
func Sub(x, y api.Ival) api.Ival { return Add(x, Neg(y)) }

// Mul holds all a b.
func Mul(x, y api.Ival) api.Ival {
	switch {
	case someEmpty(x, y):
		return Empty()
	case x.Lo >= 0:
		return stretch(y, x)
	case x.Hi <= 0:
		return mirror(stretch(y, mirror(x)))
	case y.Lo >= 0:
		return stretch(x, y)
	case y.Hi <= 0:
		return mirror(stretch(x, mirror(y)))
	}
	return api.Ival{
		Lo: min(ulp.Mul(x.Lo, y.Hi, down), ulp.Mul(x.Hi, y.Lo, down)),
		Hi: max(ulp.Mul(x.Lo, y.Lo, up), ulp.Mul(x.Hi, y.Hi, up)),
	}
}

// Div holds all a / b, b not 0.
func Div(x, y api.Ival) api.Ival {
	zero := Point(0)
	switch {
	case someEmpty(x, y) || y == zero:
		return Empty()
	case x == zero:
		return zero
	case y.Lo >= 0:
		return shrink(x, y)
	case y.Hi <= 0:
		return shrink(mirror(x), mirror(y))
	}
	return Whole() // divisors as near to 0 as one likes, of both signs
}

// Sqr holds all a a.
func Sqr(x api.Ival) api.Ival {
	if someEmpty(x) {
		return Empty()
	}
	least, greatest := Mig(x), Mag(x)
	return api.Ival{Lo: ulp.Mul(least, least, down), Hi: ulp.Mul(greatest, greatest, up)}
}

// Sqrt holds the roots of all a that are 0 or more.
func Sqrt(x api.Ival) api.Ival {
	if someEmpty(x) || x.Hi < 0 {
		return Empty()
	}
	return api.Ival{Lo: ulp.Sqrt(max(x.Lo, 0), down), Hi: ulp.Sqrt(x.Hi, up)}
}

// counted is what x counts as.
func counted(x api.Ival) api.Ival {
	if someEmpty(x) {
		return Empty()
	}
	return x
}

// mirror is the negative of an x that is not empty.
func mirror(x api.Ival) api.Ival { return Make(-x.Hi, -x.Lo) }

// stretch is x times a factor that holds nothing below 0.
func stretch(x, factor api.Ival) api.Ival {
	return Make(leastProduct(x.Lo, factor), -leastProduct(-x.Hi, factor))
}

func leastProduct(a float64, factor api.Ival) float64 {
	if a < 0 {
		return ulp.Mul(a, factor.Hi, down)
	}
	return ulp.Mul(a, factor.Lo, down)
}

// shrink is x by a divisor that holds nothing below 0, but more than 0.
func shrink(x, divisor api.Ival) api.Ival {
	return Make(leastQuotient(x.Lo, divisor), -leastQuotient(-x.Hi, divisor))
}

func leastQuotient(a float64, divisor api.Ival) float64 {
	switch {
	case a >= 0:
		return ulp.Div(a, divisor.Hi, down)
	case divisor.Lo == 0:
		return math.Inf(-1)
	}
	return ulp.Div(a, divisor.Lo, down)
}
