package lin

import (
	"math"
	"math/bits"

	"orrery/api"
	"orrery/ival"
	"orrery/ulp"
)

// Inverse holds the inverse of a, if it can be shown that there is one.
//
// Let B be the matrix a with rows and columns scaled by powers of 2, and R nearly its inverse. If the norm of E = 1 - R B is below 1, then B has an inverse X, for which X = R + E X holds; so what E makes of a box of X, added to R, is one again.
func Inverse(a [][]float64) ([][]api.Ival, api.Errno) {
	if !squareMayBe(a) {
		return nil, api.ErrArg
	}
	s, ok := scalesOf(a)
	if !ok {
		return nil, api.ErrRegular
	}
	b := s.scaled(a)
	r := Points(nearlyInverse(middles(b)))
	if r == nil {
		return nil, api.ErrRegular
	}
	e := less(One(len(a)), product(r, b))
	room := ulp.Sub(1, norm(e), down)
	if !(room > 0) {
		return nil, api.ErrRegular
	}
	x := balls(r, room)
	for range 2 { // the first round comes near to R, the second betters R by what E tells
		x = plus(r, product(e, x))
	}
	return s.back(x), api.OK
}

// balls hold the inverse: no amount in a column of X is above the greatest of R's there by 1 less the norm of E.
func balls(r [][]api.Ival, room float64) [][]api.Ival {
	x := grid[api.Ival](len(r), len(r))
	for j := range r {
		radius := ulp.Div(greatestMag(column(r, j)), room, up)
		for i := range r {
			x[i][j] = ival.Make(-radius, radius)
		}
	}
	return x
}

func greatestMag(v []api.Ival) float64 {
	greatest := 0.0
	for _, x := range v {
		greatest = max(greatest, ival.Mag(x))
	}
	return greatest
}

// less is a - b, place by place.
func less(a, b [][]api.Ival) [][]api.Ival { return placeByPlace(ival.Sub, a, b) }

// plus is a + b, place by place.
func plus(a, b [][]api.Ival) [][]api.Ival { return placeByPlace(ival.Add, a, b) }

func placeByPlace(do func(x, y api.Ival) api.Ival, a, b [][]api.Ival) [][]api.Ival {
	m := grid[api.Ival](len(a), len(a[0]))
	for i := range m {
		for j := range m[i] {
			m[i][j] = do(a[i][j], b[i][j])
		}
	}
	return m
}

func middles(m [][]api.Ival) [][]float64 {
	mids := grid[float64](len(m), len(m[0]))
	for i, row := range m {
		for j, x := range row {
			mids[i][j] = ival.Mid(x)
		}
	}
	return mids
}

// scales are the powers of 2 by which rows and columns are divided, so that the greatest amount in each is from 1/2 to 1.
type scales struct{ rows, columns []int }

// scalesOf finds none, if a row or a column is 0: then there is no inverse.
func scalesOf(a [][]float64) (scales, bool) {
	s := scales{rows: make([]int, len(a)), columns: make([]int, len(a))}
	for i, row := range a {
		s.rows[i] = greatestPower(row, make([]int, len(row)))
	}
	for j := range a {
		s.columns[j] = greatestPower(column(a, j), s.rows)
	}
	for i := range a {
		if s.rows[i] == noPower || s.columns[i] == noPower {
			return scales{}, false
		}
	}
	return s, true
}

// noPower is below that of all floats but 0.
const noPower = math.MinInt

// greatestPower is that of the greatest float in v, each divided by its power of 2.
func greatestPower(v []float64, divisors []int) int {
	greatest := noPower
	for i, x := range v {
		if x != 0 {
			greatest = max(greatest, powerOf(x)-divisors[i])
		}
	}
	return greatest
}

// powerOf is the k with 2^k above the amount of a float that is not 0, and half of that not above it.
func powerOf(x float64) int {
	p, _ := ulp.Split(x)
	return p.E + bits.Len64(p.M)
}

// scaled holds a with rows and columns divided.
func (s scales) scaled(a [][]float64) [][]api.Ival {
	b := Points(a)
	for i := range b {
		for j, x := range b[i] {
			b[i][j] = timesPower(x, -s.rows[i]-s.columns[j])
		}
	}
	return b
}

// back turns the inverse of what was scaled into that of the matrix: rows and columns change parts.
func (s scales) back(x [][]api.Ival) [][]api.Ival {
	inverse := grid[api.Ival](len(x), len(x))
	for i := range x {
		for j := range x[i] {
			inverse[i][j] = timesPower(x[i][j], -s.columns[i]-s.rows[j])
		}
	}
	return inverse
}

// timesPower holds x 2^e: what is below or beyond the floats is rounded outwards.
func timesPower(x api.Ival, e int) api.Ival {
	return api.Ival{Lo: roundedPower(x.Lo, e, down), Hi: roundedPower(x.Hi, e, up)}
}

func roundedPower(v float64, e, dir int) float64 {
	p, finite := ulp.Split(v)
	if !finite {
		return v
	}
	p.E += e
	return ulp.Round(p, dir)
}
