package ulp

import (
	"math"
	"math/bits"

	"orrery/api"
)

// sumRoom is how far a float's 53 bits can be moved up with one bit left for what a sum carries.
const sumRoom = wordBits - keptBits - 1

// Add rounds the exact sum.
func Add(a, b float64, dir int) float64 {
	p, finiteA := Split(a)
	q, finiteB := Split(b)
	if !finiteA || !finiteB {
		return a + b // nothing is rounded here: float64's own rules are those that are asked for
	}
	return Round(sum(p, q), dir)
}

// Sub rounds the exact difference.
func Sub(a, b float64, dir int) float64 { return Add(a, -b, dir) }

// Mul rounds the exact product.
func Mul(a, b float64, dir int) float64 {
	if math.IsNaN(a) || math.IsNaN(b) {
		return math.NaN()
	}
	if a == 0 || b == 0 {
		return 0
	}
	p, finiteA := Split(a)
	q, finiteB := Split(b)
	if !finiteA || !finiteB {
		return a * b
	}
	return Round(product(p, q), dir)
}

// Div rounds the exact quotient.
func Div(a, b float64, dir int) float64 {
	if math.IsNaN(a) || math.IsNaN(b) || b == 0 {
		return math.NaN()
	}
	p, finiteA := Split(a)
	q, finiteB := Split(b)
	switch {
	case !finiteA:
		return a / b
	case !finiteB:
		return 0
	}
	return Round(quotient(p, q), dir)
}

// Sqrt rounds the exact root.
func Sqrt(a float64, dir int) float64 {
	if math.IsNaN(a) || a < 0 {
		return math.NaN()
	}
	p, finite := Split(a)
	if !finite {
		return a
	}
	return Round(root(p), dir)
}

// The four below answer Parts that are rounded as the exact number is, to any side. Where that has more bits than fit, it has at least 55, so that its last one lies below all that Round tells apart: set, it says that something is lost.

func sum(p, q api.Parts) api.Parts {
	if p.M == 0 { // 0 has an exponent that says nothing
		return q
	}
	if q.M == 0 {
		return p
	}
	if p.E < q.E || p.E == q.E && p.M < q.M {
		p, q = q, p
	}
	large, small := p.M<<sumRoom, moveDown(q.M<<sumRoom, p.E-q.E)
	r := api.Parts{Neg: p.Neg, M: large + small, E: p.E - sumRoom}
	if p.Neg != q.Neg {
		r.M = large - small
	}
	return r
}

func product(p, q api.Parts) api.Parts {
	p, q = normal(p), normal(q)
	hi, lo := bits.Mul64(p.M, q.M)
	return api.Parts{Neg: p.Neg != q.Neg, M: mark(hi, lo != 0), E: p.E + q.E + wordBits}
}

// quotient takes no q that is 0.
func quotient(p, q api.Parts) api.Parts {
	p, q = normal(p), normal(q)
	hi, lo := p.M>>1, p.M<<(wordBits-1) // half of a word is below any divisor: the quotient fits
	m, rest := bits.Div64(hi, lo, q.M)
	return api.Parts{Neg: p.Neg != q.Neg, M: mark(m, rest != 0), E: p.E - q.E - (wordBits - 1)}
}

func root(p api.Parts) api.Parts {
	p = normal(p)
	if p.E&1 != 0 { // only an even exponent has a half; a float's last bits are free
		p.M >>= 1
		p.E++
	}
	m, exact := rootOfWords(p.M)
	return api.Parts{M: mark(m, !exact), E: p.E/2 - wordBits/2}
}

// rootOfWords is the whole part of the root of hi 2^64, found bit by bit, and whether it is the root.
func rootOfWords(hi uint64) (m uint64, exact bool) {
	for bit := half; bit != 0; bit >>= 1 {
		top, low := bits.Mul64(m|bit, m|bit)
		if top < hi || top == hi && low == 0 {
			m |= bit
		}
	}
	top, low := bits.Mul64(m, m)
	return m, top == hi && low == 0
}

// moveDown shifts m by n bits, and marks what is lost; n may be more than a word has.
func moveDown(m uint64, n int) uint64 {
	kept := m >> n
	return mark(kept, kept<<n != m)
}

// mark sets the last bit, if something is lost.
func mark(m uint64, lost bool) uint64 {
	if lost {
		m |= 1
	}
	return m
}
