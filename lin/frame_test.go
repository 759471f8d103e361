package lin_test

import (
	"math"
	"testing"

	"orrery/api"
	"orrery/ival"
	"orrery/lin"
)

// checkFrame is P4.4 for any square matrix that may be.
func checkFrame(t *testing.T, a floats) floats {
	t.Helper()
	q, e := lin.Frame(a)
	if e != api.OK || len(q) != len(a) {
		t.Fatalf("Frame(%v) = %v, %d", a, q, e)
	}
	for _, row := range q {
		if len(row) != len(a) {
			t.Fatalf("Frame(%v) = %v: another form", a, q)
		}
		for _, v := range row {
			if !(-2 <= v && v <= 2) || v == 0 && math.Signbit(v) {
				t.Errorf("Frame(%v): %v", a, v)
			}
		}
	}
	points := lin.Points(q)
	off, e := lin.Mul(transposed(points), points)
	if e != api.OK {
		t.Fatalf("Frame(%v) = %v may not be", a, q)
	}
	for i, row := range lin.One(len(a)) {
		for j, x := range row {
			off[i][j] = ival.Sub(x, off[i][j])
		}
	}
	if n, e := lin.Norm(off); !(n <= 0x1p-20) || e != api.OK {
		t.Errorf("Frame(%v) = %v: off by %v", a, q, n)
	}
	return q
}

// TestFrame is P4.4, for matrices of all kinds.
func TestFrame(t *testing.T) {
	zero := func(i, j int) float64 { return 0 }
	matrices := []floats{
		{{0, 3}, {4, 0}}, {{1}}, {{-1}}, {{0}}, {{minus0}}, {{least}}, {{-greatest}}, {{0, 0}, {0, 0}}, {{minus0, minus0}, {minus0, minus0}},
		{{1, 1}, {1, 1}}, {{1, 2}, {2, 4}}, {{1, 0}, {0, 0}}, {{0, 1}, {0, 1}}, {{0, 0}, {1, 1}}, {{1, 1}, {1, up(1)}},
		{{greatest, greatest}, {greatest, -greatest}}, {{least, least}, {least, -least}}, {{least, 2 * least}, {3 * least, -5 * least}},
		{{greatest, least}, {least, greatest}}, {{least, greatest}, {0, least}}, {{1, 0x1p-600}, {0x1p-600, 0x1p-300}},
		{{1, 1, 1}, {0x1p-600, 0x1p-600, 0}, {0x1p-601, 0x1p-602, 0}}, {{0, 1, 1}, {0, 0, least}, {0, 0, 2 * least}},
		{{1, 1, 1}, {1e-17, 0, 0}, {0, 1e-17, 0}}, {{1, 2, 3}, {4, 5, 6}, {7, 8, 9}},
		filled(api.MaxDim, zero), filled(api.MaxDim, func(i, j int) float64 { return greatest }), filled(api.MaxDim, func(i, j int) float64 { return -least }),
		filled(api.MaxDim, func(i, j int) float64 { return 1 / float64(i+j+1) }), filled(api.MaxDim, func(i, j int) float64 { return float64(i*j) - 7 }),
		filled(api.MaxDim, func(i, j int) float64 { return float64(b2i(i <= j)) }),
	}
	for _, a := range matrices {
		checkFrame(t, a)
	}
	r := chance(48)
	for _, draw := range []func(i, j int) float64{
		func(i, j int) float64 { return r.NormFloat64() },
		func(i, j int) float64 { return float64(r.Intn(3) - 1) },
		func(i, j int) float64 { return float64(r.Intn(2) * r.Intn(2)) },
		func(i, j int) float64 { return ofPower(r, 20) },
		func(i, j int) float64 { return ofPower(r, 1000) },
		func(i, j int) float64 { return signed(r, least*float64(r.Intn(5))) },
		func(i, j int) float64 { return signed(r, []float64{greatest, least, 0, 1, 0x1p-540}[r.Intn(5)]) },
	} {
		for n := 1; n <= api.MaxDim; n++ {
			for range 5 {
				checkFrame(t, filled(n, draw))
			}
		}
	}
	for _, n := range []int{2, 5, api.MaxDim} {
		checkFrame(t, dependent(r, n))
		checkFrame(t, transposed(dependent(r, n)))
	}
}

func TestFrameRefuses(t *testing.T) {
	for _, a := range append(wrongFloats(), notSquare()...) {
		if q, e := lin.Frame(a); q != nil || e != api.ErrArg {
			t.Errorf("Frame(%v) = %v, %d, want ErrArg", a, q, e)
		}
	}
}

// TestFrameOfAxes: columns that are along axes already stay so, the longest one first, of several as long the first one.
func TestFrameOfAxes(t *testing.T) {
	for _, c := range []struct{ a, want floats }{
		{floats{{0, 3}, {4, 0}}, floats{{0, 1}, {1, 0}}},
		{floats{{3, 0}, {0, 4}}, floats{{0, 1}, {1, 0}}},
		{floats{{-3, 0}, {0, 2}}, floats{{-1, 0}, {0, 1}}},
		{floats{{1, 0, 0}, {0, 1, 0}, {0, 0, 1}}, floats{{1, 0, 0}, {0, 1, 0}, {0, 0, 1}}},
		{floats{{least, 0, 0}, {0, 0, -1}, {0, greatest, 0}}, floats{{0, 0, 1}, {0, -1, 0}, {1, 0, 0}}},
		{floats{{0, 0}, {0, 0}}, floats{{1, 0}, {0, 1}}},
		{floats{{5, 0}, {0, 0}}, floats{{1, 0}, {0, 1}}},
	} {
		q := checkFrame(t, c.a)
		for i := range q {
			for j := range q {
				if math.Abs(q[i][j]-c.want[i][j]) > 0x1p-50 {
					t.Errorf("Frame(%v) = %v, want %v", c.a, q, c.want)
				}
			}
		}
	}
}

// follows tells whether the first column of q goes where v goes.
func follows(q floats, v []float64) bool {
	g := 0.0
	for _, x := range v {
		g = max(g, math.Abs(x))
	}
	length, along := 0.0, 0.0
	for i, x := range v {
		length += x / g * (x / g)
		along += x / g * q[i][0]
	}
	return along > math.Sqrt(length)*(1-0x1p-40)
}

// TestFrameFollows: the first column goes where the longest one of a goes, whatever sizes they have; and each is at right angles to all that are longer than the one it follows.
func TestFrameFollows(t *testing.T) {
	for _, c := range []struct {
		a       floats
		longest int
	}{
		{floats{{1, 3}, {1, 4}}, 1},
		{floats{{3, 3}, {4.5, 4}}, 0},
		{floats{{0.75, 0.9}, {0.75, 0.1}}, 0}, // longer, though its greatest amount is less
		{floats{{1.01, 0.9}, {0, 0.9}}, 1},
		{floats{{1, 1.1}, {1, 0.2}}, 0},
		{floats{{1.1, 1}, {0.2, 1}}, 1},
		{floats{{greatest, 1}, {-greatest, greatest}}, 0},
		{floats{{least, 2 * least}, {0, least}}, 1},
		{floats{{0x1p-600, 0x1p-599, 0x1p-601}, {0x1p-600, 0, 0}, {0x1p-600, 0, 0}}, 1},
		{floats{{1, 2, greatest}, {1, 2, greatest}, {1, -2, -greatest}}, 2},
	} {
		if q := checkFrame(t, c.a); !follows(q, columnOf(c.a, c.longest)) {
			t.Errorf("Frame(%v) = %v does not follow column %d", c.a, q, c.longest)
		}
	}
	r := chance(49)
	for n := 1; n <= api.MaxDim; n++ {
		a := filled(n, func(i, j int) float64 { return r.NormFloat64() * math.Ldexp(1, -5*j) }) // shorter from column to column
		q := checkFrame(t, a)
		for j := range n {
			v := columnOf(a, j)
			for k := j; k < n; k++ {
				along := 0.0
				for i := range v {
					along += v[i] * q[i][k] * math.Ldexp(1, 5*j)
				}
				if k > j && math.Abs(along) > 0x1p-40 || k == j && along <= 0 {
					t.Errorf("Frame(%v): column %d along %d: %v", a, k, j, along)
				}
			}
		}
	}
}

func TestFrameInOwnMemory(t *testing.T) {
	q, _ := lin.Frame(floats{{2, 1, 0}, {1, 2, 1}, {0, 1, 2}})
	inOwnMemory(t, q, 7)
}

// TestFrameHasInverse: what is nearly orthogonal has an inverse that is found, and narrowly.
func TestFrameHasInverse(t *testing.T) {
	r := chance(50)
	for _, n := range []int{1, 2, 3, 5, 11, api.MaxDim} {
		q := checkFrame(t, filled(n, func(i, j int) float64 { return r.NormFloat64() }))
		checkNarrow(t, q, -40)
	}
}
