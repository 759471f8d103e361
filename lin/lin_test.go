package lin_test

import (
	"math"
	"reflect"
	"testing"

	"orrery/api"
	"orrery/ival"
	"orrery/lin"
)

// wrongIntervals may not be.
func wrongIntervals() []api.Ival {
	return []api.Ival{iv(nan, 1), iv(1, nan), iv(2, 1), iv(minus0, 1), iv(-1, minus0), iv(inf, inf), iv(-inf, -inf), iv(1, -inf)}
}

// filledBoxes is a matrix with x at all places.
func filledBoxes(rows, columns int, x api.Ival) boxes {
	m := make(boxes, rows)
	for i := range m {
		for range columns {
			m[i] = append(m[i], x)
		}
	}
	return m
}

func vector(n int, x api.Ival) []api.Ival {
	if n == 0 {
		return nil
	}
	return filledBoxes(1, n, x)[0]
}

// wrongVectors may not be, whatever they stand beside.
func wrongVectors() [][]api.Ival {
	wrong := [][]api.Ival{nil, {}, vector(api.MaxDim+1, iv(1, 1)), vector(1000, none)}
	for _, x := range wrongIntervals() {
		wrong = append(wrong, []api.Ival{x}, []api.Ival{iv(1, 2), x, none}, append(vector(api.MaxDim-1, all), x))
	}
	return wrong
}

// wrongMatrices may not be.
func wrongMatrices() []boxes {
	one := iv(1, 1)
	wrong := []boxes{
		nil, {}, {nil}, {{}}, {{}, {}}, {nil, {one}}, {{one}, nil}, {{one}, {one, one}}, {{one, one}, {one}},
		{{one, one}, {one, one}, {one, one, one}},
		filledBoxes(api.MaxDim+1, 1, one), filledBoxes(1, api.MaxDim+1, one), filledBoxes(api.MaxDim+1, api.MaxDim+1, one),
	}
	for _, x := range wrongIntervals() {
		wrong = append(wrong, boxes{{x}}, boxes{{one, one}, {one, x}}, boxes{{x, one}, {one, one}}, boxes{{one, x}})
	}
	return wrong
}

// wrongFloats may not be as matrices of floats.
func wrongFloats() []floats {
	long := make([]float64, api.MaxDim+1)
	wrong := []floats{
		nil, {}, {nil}, {{}}, {{}, {}}, {nil, {1}}, {{1}, nil}, {{1}, {1, 2}}, {{1, 2}, {1}}, {{1, 2, 3}, {1, 2, 3}, {1, 2}},
		{long}, make(floats, api.MaxDim+1), filled(api.MaxDim+1, func(i, j int) float64 { return 1 }),
	}
	for _, v := range []float64{nan, inf, -inf} {
		wrong = append(wrong, floats{{v}}, floats{{1, 0}, {0, v}}, floats{{v, 0}, {0, 1}}, floats{{1, v}, {0, 1}})
	}
	return wrong
}

// notSquare may be, but for that.
func notSquare() []floats {
	return []floats{{{1, 2}}, {{1}, {2}}, {{1, 2, 3}, {4, 5, 6}}, {{1, 0}, {0, 1}, {1, 1}}, {make([]float64, api.MaxDim)}}
}

// TestNorm is P4.2.
func TestNorm(t *testing.T) {
	tiny := 0x1p-53
	for _, c := range []struct {
		m    boxes
		want float64
	}{
		{boxes{{iv(1, 2), iv(-4, 1)}, {iv(0, 0), iv(1, 1)}}, 6},
		{boxes{{iv(0, 0)}}, 0},
		{boxes{{none, none}, {none, none}}, 0},
		{boxes{{none, iv(-3, 1)}, {iv(1, 1), iv(1, 1)}}, 3},
		{boxes{{iv(1, 1), iv(0, 1)}, {iv(-5, -4), iv(2, 2)}, {iv(3, 3), iv(3, 3)}}, 7},
		{boxes{{iv(1, 1), iv(tiny, tiny)}}, up(1)},                                 // up, not to the nearest
		{boxes{{iv(1, 1), iv(tiny, tiny), iv(tiny, tiny)}}, up(up(1))},             // from the first one on
		{boxes{{iv(tiny, tiny), iv(tiny, tiny), iv(1, 1)}}, up(1)},                 // which is not the same the other way round
		{boxes{{iv(greatest, greatest), iv(least, least)}, {iv(0, 0), none}}, inf}, // no sum is rounded to MAX
		{boxes{{iv(1, 1), iv(-inf, 0)}}, inf},
		{boxes{{all, all}, {all, all}}, inf},
		{boxes{{iv(-least, least)}, {iv(0, 0)}}, least},
		{filledBoxes(api.MaxDim, api.MaxDim, iv(-1, 0.5)), api.MaxDim},
		{filledBoxes(api.MaxDim, 1, iv(-1, 0.5)), 1},
		{filledBoxes(1, api.MaxDim, iv(-1, 0.5)), api.MaxDim},
	} {
		if got, e := lin.Norm(c.m); got != c.want || e != api.OK {
			t.Errorf("Norm(%v) = %x, %d, want %x", c.m, got, e, c.want)
		}
	}
	for _, m := range wrongMatrices() {
		if got, e := lin.Norm(m); got != 0 || e != api.ErrArg {
			t.Errorf("Norm(%v) = %v, %d, want ErrArg", m, got, e)
		}
	}
}

// TestPoints is P4.2.
func TestPoints(t *testing.T) {
	for _, c := range []struct {
		m    floats
		want boxes
	}{
		{floats{{1}}, boxes{{iv(1, 1)}}},
		{floats{{1, -2}, {minus0, least}, {greatest, -greatest}}, boxes{{iv(1, 1), iv(-2, -2)}, {iv(0, 0), iv(least, least)}, {iv(greatest, greatest), iv(-greatest, -greatest)}}},
		{floats{make([]float64, api.MaxDim)}, filledBoxes(1, api.MaxDim, iv(0, 0))},
		{filled(api.MaxDim, func(i, j int) float64 { return 0.1 }), filledBoxes(api.MaxDim, api.MaxDim, iv(0.1, 0.1))},
	} {
		got := lin.Points(c.m)
		if !reflect.DeepEqual(got, c.want) {
			t.Errorf("Points(%v) = %v", c.m, got)
		}
		noMinus0(t, got)
		inOwnMemory(t, got, iv(7, 7))
	}
	for _, m := range wrongFloats() {
		if got := lin.Points(m); len(got) != 0 {
			t.Errorf("Points(%v) = %v, want none", m, got)
		}
	}
}

// TestOne is P4.2.
func TestOne(t *testing.T) {
	for n := 1; n <= api.MaxDim; n++ {
		one := lin.One(n)
		if len(one) != n {
			t.Fatalf("One(%d) has %d rows", n, len(one))
		}
		for i, row := range one {
			if len(row) != n {
				t.Fatalf("One(%d): row %d has %d", n, i, len(row))
			}
			for j, x := range row {
				if v := float64(b2i(i == j)); x != iv(v, v) {
					t.Errorf("One(%d)[%d][%d] = %v", n, i, j, x)
				}
			}
		}
		inOwnMemory(t, one, iv(7, 7))
	}
	for _, n := range []int{0, -1, api.MaxDim + 1, 1000, math.MaxInt, math.MinInt} {
		if got := lin.One(n); len(got) != 0 {
			t.Errorf("One(%d) has %d rows", n, len(got))
		}
	}
}

// noMinus0 is R5.
func noMinus0(t *testing.T, m boxes) {
	t.Helper()
	for _, row := range m {
		for _, x := range row {
			if !ival.Right(x) {
				t.Errorf("%v may not be, or has an end -0", x)
			}
		}
	}
}

// inOwnMemory is R4: what is written to a row, or behind it, is not seen in another one.
func inOwnMemory[T comparable](t *testing.T, m [][]T, mark T) {
	t.Helper()
	var before [][]T
	for _, row := range m {
		before = append(before, append([]T(nil), row...))
	}
	for i := range m {
		full := m[i][:cap(m[i])]
		kept := append([]T(nil), full...)
		for j := range full {
			full[j] = mark
		}
		for k := range m {
			if k != i && !reflect.DeepEqual(m[k], before[k]) {
				t.Errorf("the rows %d and %d share memory", i, k)
			}
		}
		copy(full, kept)
	}
}

// TestExamples has all rows of the chapter's examples.
func TestExamples(t *testing.T) {
	if got, e := lin.Dot([]api.Ival{iv(1, 2), iv(0, 1)}, []api.Ival{iv(3, 3), iv(-1, 1)}); got != iv(2, 7) || e != api.OK {
		t.Error("Dot:", got, e)
	}
	if got, e := lin.Norm(boxes{{iv(1, 2), iv(-4, 1)}, {iv(0, 0), iv(1, 1)}}); got != 6 || e != api.OK {
		t.Error("Norm:", got, e)
	}
	x, e := lin.Inverse(floats{{2, 1}, {1, 2}})
	if e != api.OK || len(x) != 2 {
		t.Fatal("Inverse:", x, e)
	}
	third := power(0).SetFrac64(1, 3)
	for i, row := range x {
		for j := range row {
			want := times(third, number(float64(3*b2i(i == j)-1)))
			if !holds(x[i][j], want) {
				t.Errorf("Inverse: %v at %d, %d does not hold %v", x[i][j], i, j, want)
			}
		}
	}
	if x, e := lin.Inverse(floats{{1, 2}, {2, 4}}); x != nil || e != api.ErrRegular {
		t.Error("Inverse:", x, e)
	}
	if x, e := lin.Inverse(floats{{1, 2}}); x != nil || e != api.ErrArg {
		t.Error("Inverse:", x, e)
	}
}
