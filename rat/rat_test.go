package rat_test

import (
	"math"
	"math/big"
	"testing"

	"orrery/api"
	"orrery/ival"
	"orrery/rat"
)

// TestRight is P11.1's first half.
func TestRight(t *testing.T) {
	for _, n := range wholes() {
		for _, d := range wholes() {
			if a := q(n, d); rat.Right(a) != mayBe(a) {
				t.Errorf("Right(%v) is %v", a, !mayBe(a))
			}
		}
	}
	for n := int64(-60); n <= 60; n++ {
		for d := int64(-60); d <= 60; d++ {
			if a := q(n, d); rat.Right(a) != mayBe(a) {
				t.Errorf("Right(%v) is %v", a, !mayBe(a))
			}
		}
	}
	for _, a := range wrong() {
		if rat.Right(a) {
			t.Errorf("Right(%v)", a)
		}
	}
	for _, a := range []api.Rat{q(0, 1), q(1, 1), q(-1, 1), q(top, 1), q(-top, 1), q(1, top), q(-1, top), q(top, top-1), q(-top, top-1), q(top-1, top)} {
		if !rat.Right(a) {
			t.Errorf("Right(%v) is false", a)
		}
	}
}

// TestMake is P11.1's second half.
func TestMake(t *testing.T) {
	for _, n := range wholes() {
		for _, d := range wholes() {
			want := failed(api.ErrPivot)
			if d != 0 {
				want = roomFor(big.NewRat(n, d))
			}
			check(t, answered(rat.Make(n, d)), want, "Make", n, d)
		}
	}
}

func TestMakeByHand(t *testing.T) {
	const least = math.MinInt64
	for _, c := range []struct {
		n, d int64
		want answer
	}{
		{4, -6, answer{q(-2, 3), api.OK}},
		{-4, -6, answer{q(2, 3), api.OK}},
		{0, -5, answer{q(0, 1), api.OK}},
		{0, least, answer{q(0, 1), api.OK}},
		{0, 0, failed(api.ErrPivot)},
		{1, 0, failed(api.ErrPivot)},
		{least, 0, failed(api.ErrPivot)},
		{least, 1, failed(api.ErrOver)},
		{least, -1, failed(api.ErrOver)},
		{least, 3, failed(api.ErrOver)},
		{1, least, failed(api.ErrOver)},
		{-1, least, failed(api.ErrOver)},
		{top, least, failed(api.ErrOver)},
		{least, 2, answer{q(-(1 << 62), 1), api.OK}},
		{least, -2, answer{q(1<<62, 1), api.OK}},
		{2, least, answer{q(-1, 1<<62), api.OK}},
		{least, least, answer{q(1, 1), api.OK}},
		{top, top, answer{q(1, 1), api.OK}},
		{top, -top, answer{q(-1, 1), api.OK}},
		{-top, 1, answer{q(-top, 1), api.OK}},
		{-1, -top, answer{q(1, top), api.OK}},
		{top, top - 1, answer{q(top, top-1), api.OK}},
	} {
		check(t, answered(rat.Make(c.n, c.d)), c.want, "Make", c.n, c.d)
	}
}

// leastInterval is found by neighbours: of floats below and above a, the nearest ones.
func leastInterval(a api.Rat) api.Ival {
	x := exact(a)
	lo, same := x.Float64()
	hi := lo
	if !same {
		if new(big.Rat).SetFloat64(lo).Cmp(x) > 0 {
			lo = math.Nextafter(lo, math.Inf(-1))
		} else {
			hi = math.Nextafter(hi, math.Inf(1))
		}
	}
	return api.Ival{Lo: lo, Hi: hi}
}

// sameIval tells +0 and -0 apart.
func sameIval(x, y api.Ival) bool {
	return math.Float64bits(x.Lo) == math.Float64bits(y.Lo) && math.Float64bits(x.Hi) == math.Float64bits(y.Hi)
}

// TestHold is P11.4.
func TestHold(t *testing.T) {
	given := append(numbers(), edges()...)
	draw := chance(2)
	for range 20000 {
		given = append(given, draw())
	}
	for _, a := range given {
		if got, want := rat.Hold(a), leastInterval(a); !sameIval(got, want) {
			t.Errorf("Hold(%v) = %g, want %g", a, got, want)
		}
	}
	for _, a := range wrong() {
		if got := rat.Hold(a); !sameIval(got, ival.Empty()) {
			t.Errorf("Hold(%v) = %g", a, got)
		}
	}
}

func TestHoldByHand(t *testing.T) {
	for _, c := range []struct {
		a      api.Rat
		lo, hi float64
	}{
		{q(0, 1), 0, 0},
		{q(1, 1), 1, 1},
		{q(-3, 4), -0.75, -0.75},
		{q(1, 3), 0x15555555555555p-54, 0x15555555555556p-54},
		{q(-1, 3), -0x15555555555556p-54, -0x15555555555555p-54},
		{q(1, 10), 0x1.9999999999999p-4, 0x1.999999999999ap-4},
		{q(1<<53-1, 1), 0x1p53 - 1, 0x1p53 - 1},
		{q(1<<53, 1), 0x1p53, 0x1p53},
		{q(1<<53+1, 1), 0x1p53, 0x1p53 + 2},
		{q(-(1<<53 + 1), 1), -0x1p53 - 2, -0x1p53},
		{q(1<<54+1, 1), 0x1p54, 0x1p54 + 4},
		{q(1<<53+1, 1<<60), 0x1p-7, 0x1p-7 + 0x1p-59},
		{q(1<<62, 1), 0x1p62, 0x1p62},
		{q(top, 1), 0x1.fffffffffffffp62, 0x1p63},
		{q(-top, 1), -0x1p63, -0x1.fffffffffffffp62},
		{q(1, 1<<62), 0x1p-62, 0x1p-62},
		{q(1, top), 0x1p-63, 0x1p-63 + 0x1p-115},
		{q(-1, top), -0x1p-63 - 0x1p-115, -0x1p-63},
		{q(top, top-1), 1, 1 + 0x1p-52},
		{q(top-1, top), 1 - 0x1p-53, 1},
	} {
		if got := rat.Hold(c.a); !sameIval(got, api.Ival{Lo: c.lo, Hi: c.hi}) {
			t.Errorf("Hold(%v) = %g, want %g, %g", c.a, got, c.lo, c.hi)
		}
	}
}

// TestExamples has all rows of the chapter's table.
func TestExamples(t *testing.T) {
	check(t, answered(rat.Make(4, -6)), answer{q(-2, 3), api.OK}, "Make")
	check(t, answered(rat.Make(1, 0)), failed(api.ErrPivot), "Make")
	check(t, answered(rat.Make(math.MinInt64, 1)), failed(api.ErrOver), "Make")
	check(t, answered(rat.Add(q(1, 2), q(1, 3))), answer{q(5, 6), api.OK}, "Add")
	check(t, answered(rat.Mul(q(2, 3), q(3, 4))), answer{q(1, 2), api.OK}, "Mul")
	check(t, answered(rat.Div(q(1, 1), q(0, 1))), failed(api.ErrPivot), "Div")
	check(t, answered(rat.Pow(q(2, 3), -2)), answer{q(9, 4), api.OK}, "Pow")
	check(t, answered(rat.Read("1.50e2")), answer{q(150, 1), api.OK}, "Read")
	check(t, answered(rat.Read(".5")), failed(api.ErrNumber), "Read")
	check(t, answered(rat.Read("1e40")), failed(api.ErrOver), "Read")
	if s := rat.Print(q(-3, 4)); s != "-3/4" {
		t.Errorf("Print: %q", s)
	}
	if x := rat.Hold(q(1, 3)); !sameIval(x, api.Ival{Lo: math.Ldexp(6004799503160661, -54), Hi: math.Ldexp(6004799503160662, -54)}) {
		t.Errorf("Hold: %g", x)
	}
}
