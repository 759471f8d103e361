package lin_test

import (
	"reflect"
	"testing"

	"orrery/api"
	"orrery/ival"
	"orrery/lin"
)

// sumOfProducts is P4.1's words.
func sumOfProducts(a, b []api.Ival) api.Ival {
	sum := iv(0, 0)
	for k := 0; k < len(a); k++ {
		sum = ival.Add(sum, ival.Mul(a[k], b[k]))
	}
	return sum
}

// TestDot is P4.1.
func TestDot(t *testing.T) {
	big, one := iv(0x1p60, 0x1p60), iv(1, 1)
	ones := []api.Ival{one, one, one}
	for _, c := range []struct {
		a, b []api.Ival
		want api.Ival
	}{
		{[]api.Ival{iv(1, 2), iv(0, 1)}, []api.Ival{iv(3, 3), iv(-1, 1)}, iv(2, 7)},
		{[]api.Ival{iv(-1, 2)}, []api.Ival{iv(3, 4)}, iv(-4, 8)},
		{[]api.Ival{big, one, iv(-0x1p60, -0x1p60)}, ones, iv(0, 256)}, // from the first one on: 1 is lost beside 2^60
		{[]api.Ival{big, iv(-0x1p60, -0x1p60), one}, ones, one},
		{[]api.Ival{iv(0, 0)}, []api.Ival{all}, iv(0, 0)},
		{[]api.Ival{iv(1, 1), none}, []api.Ival{all, all}, none}, // an empty one may be, and nothing comes of it
		{[]api.Ival{none}, []api.Ival{none}, none},
		{[]api.Ival{iv(0, inf), iv(-inf, 0)}, []api.Ival{one, one}, all},
		{[]api.Ival{iv(1, inf), iv(2, 3)}, []api.Ival{one, one}, iv(3, inf)},
		{[]api.Ival{iv(greatest, greatest)}, []api.Ival{iv(2, 2)}, iv(greatest, inf)},
		{[]api.Ival{iv(least, least)}, []api.Ival{iv(0.5, 0.5)}, iv(0, least)},
		{[]api.Ival{iv(-1, 1), iv(-0.5, 0.5)}, []api.Ival{iv(0, 0), iv(0, 0)}, iv(0, 0)},
		{vector(api.MaxDim, iv(1, 2)), vector(api.MaxDim, iv(-1, 1)), iv(-2*api.MaxDim, 2*api.MaxDim)},
	} {
		if got, e := lin.Dot(c.a, c.b); got != c.want || e != api.OK {
			t.Errorf("Dot(%v, %v) = %v, %d, want %v", c.a, c.b, got, e, c.want)
		}
	}
	r := chance(41)
	for n := 1; n <= api.MaxDim; n++ {
		for range 50 {
			a, b := someBoxes(r, 1, n)[0], someBoxes(r, 1, n)[0]
			if got, e := lin.Dot(a, b); got != sumOfProducts(a, b) || e != api.OK {
				t.Errorf("Dot(%v, %v) = %v, %d", a, b, got, e)
			}
		}
	}
}

func TestDotRefuses(t *testing.T) {
	refused := func(a, b []api.Ival) {
		t.Helper()
		if got, e := lin.Dot(a, b); got != iv(0, 0) || e != api.ErrArg {
			t.Errorf("Dot(%v, %v) = %v, %d, want ErrArg", a, b, got, e)
		}
	}
	for _, wrong := range wrongVectors() {
		right := vector(len(wrong), iv(1, 2))
		refused(wrong, right)
		refused(right, wrong)
		refused(wrong, wrong)
		refused(wrong, []api.Ival{iv(1, 2)})
		refused([]api.Ival{none}, wrong)
	}
	refused(vector(2, iv(1, 2)), vector(3, iv(1, 2)))
	refused(vector(api.MaxDim, all), vector(1, all))
	refused(vector(1, none), vector(api.MaxDim, none))
}

// TestApply is P4.1, and what follows of it (P4.5).
func TestApply(t *testing.T) {
	r := chance(42)
	for rows := 1; rows <= api.MaxDim; rows++ {
		for _, columns := range []int{1, 2, 1 + r.Intn(api.MaxDim), api.MaxDim} {
			m, v := someBoxes(r, rows, columns), someBoxes(r, 1, columns)[0]
			got, e := lin.Apply(m, v)
			if e != api.OK || len(got) != rows {
				t.Fatalf("Apply of %d rows of %d: %d, %d", rows, columns, len(got), e)
			}
			inside, with := exactIn(r, m), exactIn(r, boxes{v})[0]
			for i := range m {
				if got[i] != sumOfProducts(m[i], v) {
					t.Errorf("Apply(%v, %v)[%d] = %v", m, v, i, got[i])
				}
				if image := dotOf(inside[i], with); !holds(got[i], image) {
					t.Errorf("Apply(%v, %v)[%d] = %v does not hold %v", m, v, i, got[i], image)
				}
			}
		}
	}
	if got, e := lin.Apply(boxes{{none, all}, {iv(1, 1), iv(2, 2)}}, []api.Ival{iv(1, 1), iv(-1, 1)}); e != api.OK || !reflect.DeepEqual(got, []api.Ival{none, iv(-1, 3)}) {
		t.Error("Apply of an empty one:", got, e)
	}
}

func TestApplyRefuses(t *testing.T) {
	refused := func(m boxes, v []api.Ival) {
		t.Helper()
		if got, e := lin.Apply(m, v); got != nil || e != api.ErrArg {
			t.Errorf("Apply(%v, %v) = %v, %d, want ErrArg", m, v, got, e)
		}
	}
	for _, m := range wrongMatrices() {
		for n := range 4 {
			refused(m, vector(n, iv(1, 2)))
		}
		refused(m, vector(api.MaxDim+1, iv(1, 2)))
	}
	for _, v := range wrongVectors() {
		refused(filledBoxes(2, max(1, len(v)), iv(1, 1)), v)
		refused(boxes{{iv(1, 1)}}, v)
	}
	refused(filledBoxes(2, 3, iv(1, 1)), vector(2, iv(1, 1))) // as many as rows, but not as in a row
	refused(filledBoxes(3, 2, iv(1, 1)), vector(3, iv(1, 1)))
	refused(filledBoxes(2, 2, iv(1, 1)), vector(api.MaxDim, iv(1, 1)))
}

// TestMul is P4.1.
func TestMul(t *testing.T) {
	r := chance(43)
	sizes := []int{1, 2, 3, 7, api.MaxDim}
	for _, rows := range sizes {
		for _, between := range sizes {
			for _, columns := range sizes {
				a, b := someBoxes(r, rows, between), someBoxes(r, between, columns)
				got, e := lin.Mul(a, b)
				if e != api.OK || len(got) != rows || len(got[rows-1]) != columns {
					t.Fatalf("Mul of %d, %d, %d: %d rows, %d", rows, between, columns, len(got), e)
				}
				for i := range rows {
					for j := range columns {
						if got[i][j] != sumOfProducts(a[i], columnOf(b, j)) {
							t.Errorf("Mul(%v, %v)[%d][%d] = %v", a, b, i, j, got[i][j])
						}
					}
				}
				inOwnMemory(t, got, iv(7, 7))
			}
		}
	}
}

func TestMulRefuses(t *testing.T) {
	refused := func(a, b boxes) {
		t.Helper()
		if got, e := lin.Mul(a, b); got != nil || e != api.ErrArg {
			t.Errorf("Mul(%v, %v) = %v, %d, want ErrArg", a, b, got, e)
		}
	}
	for _, m := range wrongMatrices() {
		rows, columns := max(1, len(m)), 1
		if len(m) > 0 {
			columns = max(1, len(m[0]))
		}
		refused(m, filledBoxes(columns, 2, iv(1, 2)))
		refused(filledBoxes(2, rows, iv(1, 2)), m)
		refused(m, m)
	}
	one := iv(1, 1)
	refused(filledBoxes(2, 3, one), filledBoxes(2, 3, one))
	refused(filledBoxes(2, 3, one), filledBoxes(4, 3, one))
	refused(filledBoxes(3, 2, one), filledBoxes(3, 2, one))
	refused(filledBoxes(api.MaxDim, api.MaxDim, one), filledBoxes(1, api.MaxDim, one))
}

// TestArgumentsStay is rule 7 of the language: what is handed in is not changed.
func TestArgumentsStay(t *testing.T) {
	a, b := boxes{{iv(1, 2), iv(3, 4)}, {iv(5, 6), iv(7, 8)}}, boxes{{iv(-1, 1), none}, {all, iv(0, 0)}}
	v, w := []api.Ival{iv(1, 2), iv(3, 4)}, []api.Ival{iv(-1, 1), all}
	f := floats{{1, 2}, {3, 4}}
	lin.Dot(v, w)
	lin.Apply(a, v)
	lin.Mul(a, b)
	lin.Norm(b)
	lin.Points(f)
	lin.Inverse(f)
	lin.Frame(f)
	if !reflect.DeepEqual(a, boxes{{iv(1, 2), iv(3, 4)}, {iv(5, 6), iv(7, 8)}}) ||
		!reflect.DeepEqual(b, boxes{{iv(-1, 1), none}, {all, iv(0, 0)}}) ||
		!reflect.DeepEqual(v, []api.Ival{iv(1, 2), iv(3, 4)}) || !reflect.DeepEqual(w, []api.Ival{iv(-1, 1), all}) ||
		!reflect.DeepEqual(f, floats{{1, 2}, {3, 4}}) {
		t.Error(a, b, v, w, f)
	}
}
