package lin

import (
	"cmp"
	"slices"

	"orrery/api"
	"orrery/ulp"
)

// Frame is nearly orthogonal; its columns follow those of a, the longest one first.
//
// It goes Householder's way: each column is laid along an axis by a mirror, which all later ones go through too. Mirrors are orthogonal, whatever the columns are; so is what they are together.
func Frame(a [][]float64) ([][]float64, api.Errno) {
	if !squareMayBe(a) {
		return nil, api.ErrArg
	}
	mirrors := mirrorsOf(longestFirst(a))
	q := grid[float64](len(a), len(a))
	for j := range a {
		for i, v := range axisBehind(mirrors, j) {
			q[i][j] = v
		}
	}
	return q, api.OK
}

// arrow is a column, divided by a power of 2; length is that of what is left.
type arrow struct {
	v      []float64
	length float64
	power  int
}

// longestFirst are a's columns, made so large that nothing of weight is lost below the floats or beyond them.
func longestFirst(a [][]float64) [][]float64 {
	arrows := make([]arrow, len(a))
	for j := range a {
		arrows[j] = arrowOf(column(a, j))
	}
	slices.SortStableFunc(arrows, func(x, y arrow) int {
		return cmp.Or(cmp.Compare(y.power, x.power), cmp.Compare(y.length, x.length))
	})
	columns := make([][]float64, len(a))
	for j := range columns {
		columns[j] = arrows[j].v
	}
	return columns
}

// arrowOf divides so that the length is from 1/2 to 1: then the powers tell first which of two is longer.
func arrowOf(v []float64) arrow {
	v, power := atHand(v)
	if power == noPower {
		return arrow{v: v, power: noPower}
	}
	length := lengthOf(v)
	rest := powerOf(length)
	return arrow{v: v, length: roundedPower(length, -rest, nearest), power: power + rest}
}

// atHand is v, divided by a power of 2, so that the greatest amount is from 1/2 to 1.
func atHand(v []float64) ([]float64, int) {
	near := make([]float64, len(v))
	power := greatestPower(v, make([]int, len(v)))
	if power == noPower {
		return near, noPower
	}
	for i := range v {
		near[i] = roundedPower(v[i], -power, nearest)
	}
	return near, power
}

func lengthOf(v []float64) float64 { return ulp.Sqrt(inner(v, v), nearest) }

func inner(v, w []float64) float64 {
	sum := 0.0
	for i := range v {
		sum += float64(v[i] * w[i]) // the conversion keeps the product from being joined with the sum
	}
	return sum
}

// mirror turns vectors round at right angles to v, of which the first places are left out. Without v it leaves all as they are.
type mirror struct {
	v       []float64
	square  float64
	flipped bool // it lays what it was made of against its axis, not along it
}

// mirrorsOf lays the columns along the axes, one behind the other.
func mirrorsOf(columns [][]float64) []mirror {
	mirrors := make([]mirror, len(columns))
	for k := range columns {
		mirrors[k] = mirrorOf(columns[k][k:])
		for _, later := range columns[k+1:] {
			mirrors[k].turn(later[k:])
		}
	}
	return mirrors
}

// mirrorOf lays x along the first axis, or against it: on that side on which no digits are lost.
func mirrorOf(x []float64) mirror {
	v, power := atHand(x)
	if power == noPower {
		return mirror{}
	}
	if v[0] < 0 {
		v[0] -= lengthOf(v)
		return mirror{v: v, square: inner(v, v)}
	}
	v[0] += lengthOf(v)
	return mirror{v: v, square: inner(v, v), flipped: true}
}

func (m mirror) turn(w []float64) {
	if m.v != nil {
		takeOff(w, m.v, 2*inner(m.v, w)/m.square)
	}
}

// axisBehind is what lies behind the mirrors where the axis j is seen: the direction of the column that was laid along it.
func axisBehind(mirrors []mirror, j int) []float64 {
	axis := make([]float64, len(mirrors))
	axis[j] = 1
	if mirrors[j].flipped {
		axis[j] = -1
	}
	for k := range j + 1 { // later mirrors leave this axis as it is
		mirrors[j-k].turn(axis[j-k:])
	}
	return axis
}
