package ival

import (
	"orrery/api"
	"orrery/ulp"
)

// Pow holds all a^n, a in x: worked out by rounded products, one by one.
func Pow(x api.Ival, n int) api.Ival {
	switch {
	case someEmpty(x):
		return Empty()
	case n < -api.MaxPower || n > api.MaxPower:
		return Whole()
	case n == 0:
		return Point(1)
	case n < 0:
		return Div(Point(1), Pow(x, -n))
	case n%2 == 0:
		return api.Ival{Lo: power(Mig(x), n, down), Hi: power(Mag(x), n, up)}
	}
	return Make(oddPower(x.Lo, n, down), oddPower(x.Hi, n, up))
}

// oddPower turns the side round together with the sign.
func oddPower(v float64, n, dir int) float64 {
	if v < 0 {
		return -power(-v, n, -dir)
	}
	return power(v, n, dir)
}

// power takes no v below 0, and an n above 0.
func power(v float64, n, dir int) float64 {
	p := v
	for range n - 1 {
		p = ulp.Mul(p, v, dir)
	}
	return p
}
