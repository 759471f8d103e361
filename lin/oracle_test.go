package lin_test

// Matrices of exact numbers: what the package's answers must hold is found in whole numbers, without a rounding.

import (
	"math"
	"math/big"
	"math/rand"

	"orrery/api"
)

var (
	inf      = math.Inf(1)
	nan      = math.NaN()
	minus0   = math.Copysign(0, -1)
	least    = math.SmallestNonzeroFloat64
	greatest = math.MaxFloat64
	none     = api.Ival{Lo: inf, Hi: -inf}
	all      = api.Ival{Lo: -inf, Hi: inf}
)

type (
	floats = [][]float64
	boxes  = [][]api.Ival
	exact  = [][]*big.Rat
)

func iv(lo, hi float64) api.Ival { return api.Ival{Lo: lo, Hi: hi} }

func up(v float64) float64 { return math.Nextafter(v, inf) }

func down(v float64) float64 { return math.Nextafter(v, -inf) }

func number(v float64) *big.Rat { return new(big.Rat).SetFloat64(v) }

func power(e int) *big.Rat {
	p := new(big.Rat).SetInt(new(big.Int).Lsh(big.NewInt(1), uint(max(e, -e))))
	if e < 0 {
		p.Inv(p)
	}
	return p
}

func times(a, b *big.Rat) *big.Rat { return new(big.Rat).Mul(a, b) }

// holds tells whether x goes round v.
func holds(x api.Ival, v *big.Rat) bool {
	return x.Lo <= x.Hi &&
		(math.IsInf(x.Lo, -1) || number(x.Lo).Cmp(v) <= 0) &&
		(math.IsInf(x.Hi, 1) || number(x.Hi).Cmp(v) >= 0)
}

func exactOf(a floats) exact {
	m := make(exact, len(a))
	for i, row := range a {
		for _, v := range row {
			m[i] = append(m[i], number(v))
		}
	}
	return m
}

func dotOf(a, b []*big.Rat) *big.Rat {
	sum := new(big.Rat)
	for k := range a {
		sum.Add(sum, times(a[k], b[k]))
	}
	return sum
}

func columnOf[T any](m [][]T, j int) []T {
	var v []T
	for _, row := range m {
		v = append(v, row[j])
	}
	return v
}

func transposed[T any](m [][]T) [][]T {
	var t [][]T
	for j := range m[0] {
		t = append(t, columnOf(m, j))
	}
	return t
}

// lowest is the exponent of the last bit of a number that is a float, or some exponent not above it.
const lowest = -1074

// wholeOf is a row times 2^1074.
func wholeOf(row []float64) []*big.Int {
	var whole []*big.Int
	for _, v := range row {
		whole = append(whole, new(big.Int).Set(times(number(v), power(-lowest)).Num()))
	}
	return whole
}

// withoutDivisor takes off what all numbers of a row are even multiples of, so that what follows stays small.
func withoutDivisor(row []*big.Int) (shift int) {
	zeros := -1
	for _, v := range row {
		if v.Sign() != 0 && (zeros < 0 || int(v.TrailingZeroBits()) < zeros) {
			zeros = int(v.TrailingZeroBits())
		}
	}
	if zeros < 0 {
		return 0
	}
	for _, v := range row {
		v.Rsh(v, uint(zeros))
	}
	return zeros
}

// inverseOf is exact; none, if there is none. It goes Bareiss' way: all divisions of whole numbers there leave nothing.
func inverseOf(a floats) exact {
	n := len(a)
	rows := make([][]*big.Int, n)
	shifts := make([]int, n) // a row is what stands here times 2^shift
	for i := range a {
		whole := wholeOf(a[i])
		shifts[i] = lowest + withoutDivisor(whole)
		for j := range n {
			whole = append(whole, big.NewInt(int64(b2i(i == j))))
		}
		rows[i] = whole
	}
	before := big.NewInt(1)
	for k := range n {
		p := k
		for p < n && rows[p][k].Sign() == 0 {
			p++
		}
		if p == n {
			return nil
		}
		if p != k { // its sign turned, the determinant stays
			rows[k], rows[p] = rows[p], rows[k]
			for _, v := range rows[k] {
				v.Neg(v)
			}
		}
		pivot := new(big.Int).Set(rows[k][k])
		for i := range rows {
			if i != k {
				bareiss(rows[i], rows[k], k, pivot, before)
			}
		}
		before = pivot
	}
	x := make(exact, n)
	for i := range n {
		for j := range n {
			v := new(big.Rat).SetFrac(rows[i][n+j], rows[i][i])
			x[i] = append(x[i], v.Mul(v, power(-shifts[j])))
		}
	}
	return x
}

func bareiss(row, other []*big.Int, k int, pivot, before *big.Int) {
	factor := new(big.Int).Set(row[k])
	for j := range row {
		v := new(big.Int).Mul(pivot, row[j])
		v.Sub(v, new(big.Int).Mul(factor, other[j]))
		row[j] = v.Quo(v, before)
	}
}

func b2i(b bool) int {
	if b {
		return 1
	}
	return 0
}

// greatestAmount of a list of numbers.
func greatestAmount(v []*big.Rat) *big.Rat {
	g := new(big.Rat)
	for _, x := range v {
		if amount := new(big.Rat).Abs(x); amount.Cmp(g) > 0 {
			g = amount
		}
	}
	return g
}

func chance(seed int64) *rand.Rand { return rand.New(rand.NewSource(seed)) }

// filled is a matrix of n rows whose places are drawn one by one.
func filled(n int, draw func(i, j int) float64) floats {
	m := make(floats, n)
	for i := range m {
		m[i] = make([]float64, n)
		for j := range m[i] {
			m[i][j] = draw(i, j)
		}
	}
	return m
}

// signed is v or its negative.
func signed(r *rand.Rand, v float64) float64 {
	if r.Intn(2) == 0 {
		return -v
	}
	return v
}

// ofPower is a float whose power of 2 is drawn up to that amount.
func ofPower(r *rand.Rand, amount int) float64 {
	return signed(r, math.Ldexp(1+r.Float64(), r.Intn(2*amount+1)-amount))
}

// someInterval is of any size, some of them without an end, or with one number, or empty.
func someInterval(r *rand.Rand) api.Ival {
	a, b := ofPower(r, 8), ofPower(r, 8)
	switch r.Intn(12) {
	case 0:
		return iv(a, a)
	case 1:
		return iv(-inf, a)
	case 2:
		return iv(a, inf)
	case 3:
		return iv(0, 0)
	}
	return iv(min(a, b), max(a, b))
}

func someBoxes(r *rand.Rand, rows, columns int) boxes {
	m := make(boxes, rows)
	for i := range m {
		for range columns {
			m[i] = append(m[i], someInterval(r))
		}
	}
	return m
}

// someIn is a number that x holds.
func someIn(r *rand.Rand, x api.Ival) *big.Rat {
	lo, hi := max(x.Lo, -1e6), min(x.Hi, 1e6)
	v := lo + r.Float64()*(hi-lo)
	return number(min(max(v, lo), hi))
}

func exactIn(r *rand.Rand, m boxes) exact {
	e := make(exact, len(m))
	for i, row := range m {
		for _, x := range row {
			e[i] = append(e[i], someIn(r, x))
		}
	}
	return e
}
