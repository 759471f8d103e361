package rat

import "orrery/api"

// Add is the exact sum.
func Add(a, b api.Rat) (api.Rat, api.Errno) {
	if !Right(a) || !Right(b) {
		return api.Rat{}, api.ErrArg
	}
	return sum(a, b)
}

// Sub is the exact difference.
func Sub(a, b api.Rat) (api.Rat, api.Errno) {
	if !Right(a) || !Right(b) {
		return api.Rat{}, api.ErrArg
	}
	return sum(a, api.Rat{N: -b.N, D: b.D})
}

// Mul is the exact product.
func Mul(a, b api.Rat) (api.Rat, api.Errno) {
	if !Right(a) || !Right(b) {
		return api.Rat{}, api.ErrArg
	}
	return times(a, b)
}

// Div is the exact quotient.
func Div(a, b api.Rat) (api.Rat, api.Errno) {
	switch {
	case !Right(a) || !Right(b):
		return api.Rat{}, api.ErrArg
	case b.N == 0:
		return api.Rat{}, api.ErrPivot
	}
	return times(a, turned(b))
}

// Pow is a to the power n.
func Pow(a api.Rat, n int) (api.Rat, api.Errno) {
	switch {
	case !Right(a) || n < -api.MaxPower || n > api.MaxPower:
		return api.Rat{}, api.ErrArg
	case n < 0 && a.N == 0:
		return api.Rat{}, api.ErrPivot
	case n < 0:
		a, n = turned(a), -n
	}
	one := wide{lo: 1}
	return made(a.N < 0 && n%2 != 0, grown(one, amount(a.N), n), grown(one, amount(a.D), n))
}

// Cmp is -1, 0 or 1, as a is below, the same as, or above b.
func Cmp(a, b api.Rat) int {
	if !Right(a) || !Right(b) {
		return 0
	}
	left, right := signedProduct(a.N, amount(b.D)), signedProduct(b.N, amount(a.D))
	switch d := left.plus(right.negative()); {
	case d.belowZero():
		return -1
	case d != wide{}:
		return 1
	}
	return 0
}

// sum brings both to the least divisor that fits both. Only a part of what their own ones have in common can still be left out then.
func sum(a, b api.Rat) (api.Rat, api.Errno) {
	common := divisor(amount(a.D), amount(b.D))
	restA, restB := amount(a.D)/common, amount(b.D)/common
	top := signedProduct(a.N, restB).plus(signedProduct(b.N, restA))
	neg := top.belowZero()
	if neg {
		top = top.negative()
	}
	_, rest := top.by(common)
	out := divisor(rest, common)
	n, _ := top.by(out)
	return made(neg, n, product(restA, amount(b.D)/out))
}

// times leaves out crosswise ahead of multiplying: nothing can be left out of the products any more.
func times(a, b api.Rat) (api.Rat, api.Errno) {
	down, up := divisor(amount(a.N), amount(b.D)), divisor(amount(b.N), amount(a.D))
	n := product(amount(a.N)/down, amount(b.N)/up)
	d := product(amount(a.D)/up, amount(b.D)/down)
	return made((a.N < 0) != (b.N < 0), n, d)
}

// turned is 1 / a, of one that is not 0.
func turned(a api.Rat) api.Rat {
	if a.N < 0 {
		return api.Rat{N: -a.D, D: -a.N}
	}
	return api.Rat{N: a.D, D: a.N}
}
