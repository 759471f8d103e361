package elem

import (
	"orrery/api"
	"orrery/ival"
)

// series adds terms from the last one to the first, so that small ones are not rounded beside great ones. add puts the term n to what comes of all behind it, and takes out what they share; tail holds what comes of those that are left out.
func series(terms int, tail api.Ival, add func(n int, tail api.Ival) api.Ival) api.Ival {
	for n := terms - 1; n >= 0; n-- {
		tail = add(n, tail)
	}
	return tail
}

// nearOne holds the tails of series whose first term is 1, and each next one at most a third of the one ahead.
func nearOne() api.Ival { return ival.Make(0.5, 1.5) }

// powersOfE holds e to the power of r, whose amount is at most 1: the sum of r^n / n!. The tail behind 16 terms is 1 + r/17 (1 + r/18 ..).
func powersOfE(r api.Ival) api.Ival {
	one := ival.Point(1)
	return series(16, nearOne(), func(n int, tail api.Ival) api.Ival {
		return ival.Add(one, ival.Div(ival.Mul(r, tail), whole(n+1)))
	})
}

// turned holds the cosine (first 0), or the sine divided by r (first 1), of r, whose amount is at most 1: the sum of (-r r)^n / (2n + first)!. The tail behind 10 terms is 1 - r r / (21 22) ..
func turned(r api.Ival, first int) api.Ival {
	one, square := ival.Point(1), ival.Sqr(r)
	return series(10, nearOne(), func(n int, tail api.Ival) api.Ival {
		divisor := whole((2*n + first + 1) * (2*n + first + 2))
		return ival.Sub(one, ival.Div(ival.Mul(square, tail), divisor))
	})
}

// oddShares holds the sum of z^n / (2n + 1), the amount of z being at most 1/16. The tail behind 16 terms is at most 1/33 (1 + 1/16 + 1/16^2 ..).
func oddShares(z api.Ival) api.Ival {
	one, tail := ival.Point(1), ival.Make(-0.0625, 0.0625)
	return series(16, tail, func(n int, tail api.Ival) api.Ival {
		return ival.Add(ival.Div(one, whole(2*n+1)), ival.Mul(z, tail))
	})
}
