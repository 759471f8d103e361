package unit

import (
	"slices"

	"orrery/api"
	"orrery/rat"
)

// product is a dimension, times powers of unknown ones. It is never changed, so that products may share their factors.
type product struct {
	dim     api.Dim
	factors []factor // in rising order of unknowns; no exponent is 0
}

// factor is an unknown, the variable of that number, with its exponent.
type factor struct {
	unknown  int
	exponent api.Rat
}

func ofKnown(d api.Dim) product { return product{dim: d} }

func ofUnknown(variable int) product {
	return product{dim: Plain(), factors: []factor{{variable, whole(1)}}}
}

// times is a b^p.
func (a product) times(b product, p api.Rat) product {
	return product{dim: times(a.dim, b.dim, p), factors: merged(a.factors, b.factors, p)}
}

func (a product) power(p api.Rat) product { return ofKnown(Plain()).times(a, p) }

// exponent is that of an unknown, 0 if it is not there.
func (a product) exponent(unknown int) api.Rat {
	at, ok := slices.BinarySearchFunc(a.factors, unknown, func(f factor, unknown int) int { return f.unknown - unknown })
	if !ok {
		return whole(0)
	}
	return a.factors[at].exponent
}

// merged are the factors of a b^p.
func merged(a, b []factor, p api.Rat) []factor {
	if len(b) == 0 || p == whole(0) {
		return a
	}
	all := make([]factor, 0, len(a)+len(b))
	for _, f := range b {
		for len(a) > 0 && a[0].unknown < f.unknown {
			all, a = append(all, a[0]), a[1:]
		}
		f.exponent = must(rat.Mul(f.exponent, p))
		if len(a) > 0 && a[0].unknown == f.unknown {
			f.exponent = must(rat.Add(a[0].exponent, f.exponent))
			a = a[1:]
		}
		if f.exponent != whole(0) {
			all = append(all, f)
		}
	}
	return append(all, a...)
}
