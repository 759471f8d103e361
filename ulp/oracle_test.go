package ulp_test

// What the chapter says in words, gone through in exact numbers: slow, and made in another way than the package.

import (
	"math"
	"math/big"
)

// dyadic is m 2^e.
type dyadic struct {
	m *big.Int
	e int
}

// exact is a real number: compare is -1, 0 or 1, as it is below, at or above r.
type exact interface{ compare(r dyadic) int }

// ratio is n / d, d above 0.
type ratio struct {
	n dyadic
	d *big.Int
}

func (q ratio) compare(r dyadic) int {
	return compareDyadic(q.n, dyadic{new(big.Int).Mul(r.m, q.d), r.e})
}

type rootOf struct{ square exact }

func (s rootOf) compare(r dyadic) int {
	if r.m.Sign() < 0 {
		return 1
	}
	return s.square.compare(times(r, r))
}

type negativeOf struct{ of exact }

func (n negativeOf) compare(r dyadic) int { return -n.of.compare(negated(r)) }

// at is r's m, if its exponent were the lower one e.
func at(r dyadic, e int) *big.Int { return new(big.Int).Lsh(r.m, uint(r.e-e)) }

func compareDyadic(a, b dyadic) int {
	e := min(a.e, b.e)
	return at(a, e).Cmp(at(b, e))
}

func plus(a, b dyadic) dyadic {
	e := min(a.e, b.e)
	return dyadic{new(big.Int).Add(at(a, e), at(b, e)), e}
}

func times(a, b dyadic) dyadic { return dyadic{new(big.Int).Mul(a.m, b.m), a.e + b.e} }

func negated(a dyadic) dyadic { return dyadic{new(big.Int).Neg(a.m), a.e} }

func whole(a dyadic) exact { return ratio{a, big.NewInt(1)} }

// numberOf is a finite float as it is, by the library's way of taking it apart.
func numberOf(x float64) dyadic {
	fraction, e := math.Frexp(x)
	return dyadic{big.NewInt(int64(math.Ldexp(fraction, 53))), e - 53}
}

// place numbers the floats in their order, 0 being 0; floatAt is its inverse.
func place(x float64) int64 {
	amount := int64(math.Float64bits(math.Abs(x)))
	if x < 0 {
		return -amount
	}
	return amount
}

func floatAt(k int64) float64 {
	if k < 0 {
		return -math.Float64frombits(uint64(-k))
	}
	return math.Float64frombits(uint64(k))
}

// roundedDown is the greatest float, but +Inf, that is not above x.
func roundedDown(x exact) float64 {
	notAbove, above := place(math.Inf(-1)), place(math.Inf(1))
	for notAbove+1 < above {
		middle := notAbove>>1 + above>>1 + notAbove&above&1 // their sum may have no room in an int64
		if x.compare(numberOf(floatAt(middle))) >= 0 {
			notAbove = middle
		} else {
			above = middle
		}
	}
	return floatAt(notAbove)
}

func roundedUp(x exact) float64 { return withoutSign(-roundedDown(negativeOf{x})) }

func withoutSign(x float64) float64 {
	if x == 0 {
		return 0
	}
	return x
}

// counted is what a float counts as, when it is asked which is nearer.
func counted(x float64) dyadic {
	switch {
	case x > math.MaxFloat64:
		return dyadic{big.NewInt(1), 1024}
	case x < -math.MaxFloat64:
		return dyadic{big.NewInt(-1), 1024}
	}
	return numberOf(x)
}

// rounded answers x rounded down, to the nearest, and up.
func rounded(x exact) [3]float64 {
	down, up := roundedDown(x), roundedUp(x)
	middle := plus(counted(down), counted(up))
	middle.e--
	near := down
	switch x.compare(middle) {
	case 1:
		near = up
	case 0:
		if math.Float64bits(down)&1 != 0 { // an infinite one has the last bit of 2^1024, too: 0
			near = up
		}
	}
	return [3]float64{down, near, up}
}

func sumOf(a, b float64) exact { return whole(plus(numberOf(a), numberOf(b))) }

func differenceOf(a, b float64) exact { return whole(plus(numberOf(a), negated(numberOf(b)))) }

func productOf(a, b float64) exact { return whole(times(numberOf(a), numberOf(b))) }

func quotientOf(a, b float64) exact {
	n, d := numberOf(a), numberOf(b)
	if d.m.Sign() < 0 {
		n, d = negated(n), negated(d)
	}
	n.e -= d.e
	return ratio{n, d.m}
}

// scaled is m 2^e, or the negative of that.
func scaled(neg bool, m uint64, e int) exact {
	r := dyadic{new(big.Int).SetUint64(m), e}
	if neg {
		r = negated(r)
	}
	return whole(r)
}
