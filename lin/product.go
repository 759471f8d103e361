package lin

import (
	"orrery/api"
	"orrery/ival"
)

// Dot is the sum of the products of a's intervals and b's.
func Dot(a, b []api.Ival) (api.Ival, api.Errno) {
	if !vectorMayBe(a) || !vectorMayBe(b) || len(a) != len(b) {
		return api.Ival{}, api.ErrArg
	}
	return dot(a, b), api.OK
}

// Apply is a matrix times a vector.
func Apply(m [][]api.Ival, v []api.Ival) ([]api.Ival, api.Errno) {
	if !matrixMayBe(m) || !vectorMayBe(v) || len(m[0]) != len(v) {
		return nil, api.ErrArg
	}
	image := make([]api.Ival, len(m))
	for i, row := range m {
		image[i] = dot(row, v)
	}
	return image, api.OK
}

// Mul is a matrix times another.
func Mul(a, b [][]api.Ival) ([][]api.Ival, api.Errno) {
	if !matrixMayBe(a) || !matrixMayBe(b) || len(a[0]) != len(b) {
		return nil, api.ErrArg
	}
	return product(a, b), api.OK
}

func product(a, b [][]api.Ival) [][]api.Ival {
	p := grid[api.Ival](len(a), len(b[0]))
	for j := range len(b[0]) {
		v := column(b, j)
		for i, row := range a {
			p[i][j] = dot(row, v)
		}
	}
	return p
}

func dot(a, b []api.Ival) api.Ival {
	sum := ival.Point(0)
	for k := range a {
		sum = ival.Add(sum, ival.Mul(a[k], b[k]))
	}
	return sum
}
