package ival_test

import (
	"math"
	"strconv"
	"testing"

	"orrery/api"
	"orrery/ival"
)

func TestRight(t *testing.T) {
	for _, x := range manyEdges() {
		if !ival.Right(x) {
			t.Errorf("Right(%g) is false", x)
		}
	}
	for _, x := range wrong() {
		if ival.Right(x) {
			t.Errorf("Right(%g) is true", x)
		}
	}
}

func TestEmptyAndWhole(t *testing.T) {
	if x := ival.Empty(); !sameIval(x, none) {
		t.Errorf("Empty() = %g", x)
	}
	if x := ival.Whole(); !sameIval(x, all) {
		t.Errorf("Whole() = %g", x)
	}
}

func TestMake(t *testing.T) {
	for _, x := range manyEdges() {
		if got := ival.Make(x.Lo, x.Hi); !sameIval(got, x) {
			t.Errorf("Make(%g, %g) = %g", x.Lo, x.Hi, got)
		}
	}
	for _, c := range []struct{ x, want api.Ival }{
		{iv(minus0, 1), iv(0, 1)},
		{iv(-1, minus0), iv(-1, 0)},
		{iv(minus0, minus0), iv(0, 0)},
		{iv(0, minus0), iv(0, 0)},
		{iv(minus0, 0), iv(0, 0)},
		{iv(minus0, inf), iv(0, inf)},
		{iv(-inf, minus0), iv(-inf, 0)},
		{iv(minus0, -1), none},
		{iv(1, minus0), none},
		{iv(inf, minus0), none},
		{iv(minus0, -inf), none},
		{iv(minus0, nan), none},
		{iv(nan, minus0), none},
		{iv(nan, 1), none},
		{iv(1, nan), none},
		{iv(nan, nan), none},
		{iv(2, 1), none},
		{iv(inf, inf), none},
		{iv(-inf, -inf), none},
		{iv(inf, -inf), none},
		{iv(inf, 1), none},
		{iv(1, -inf), none},
	} {
		if got := ival.Make(c.x.Lo, c.x.Hi); !sameIval(got, c.want) {
			t.Errorf("Make(%g, %g) = %g, want %g", c.x.Lo, c.x.Hi, got, c.want)
		}
	}
}

func TestPoint(t *testing.T) {
	for _, v := range []float64{0, 1, -1, 1 / 3.0, least, -least, greatest, -greatest} {
		if got := ival.Point(v); !sameIval(got, iv(v, v)) {
			t.Errorf("Point(%g) = %g", v, got)
		}
	}
	if got := ival.Point(minus0); !sameIval(got, iv(0, 0)) {
		t.Errorf("Point(-0) = %g", got)
	}
	for _, v := range []float64{inf, -inf, nan, -nan} {
		if got := ival.Point(v); !sameIval(got, none) {
			t.Errorf("Point(%g) = %g", v, got)
		}
	}
}

// one and two are all calls that make intervals of others.
func one() map[string]func(x api.Ival) api.Ival {
	out := map[string]func(x api.Ival) api.Ival{"Neg": ival.Neg, "Sqr": ival.Sqr, "Sqrt": ival.Sqrt}
	for n := -67; n <= 67; n++ {
		out["Pow "+strconv.Itoa(n)] = func(x api.Ival) api.Ival { return ival.Pow(x, n) }
	}
	for _, n := range []int{math.MinInt, math.MinInt + 1, -1 << 32, 1 << 32, 1<<32 + 1, math.MaxInt} {
		out["Pow "+strconv.Itoa(n)] = func(x api.Ival) api.Ival { return ival.Pow(x, n) }
	}
	return out
}

func two() map[string]func(x, y api.Ival) api.Ival {
	return map[string]func(x, y api.Ival) api.Ival{"Hull": ival.Hull, "Meet": ival.Meet, "Add": ival.Add, "Sub": ival.Sub, "Mul": ival.Mul, "Div": ival.Div}
}

func sizes() map[string]func(x api.Ival) float64 {
	return map[string]func(x api.Ival) float64{"Mid": ival.Mid, "Wid": ival.Wid, "Mag": ival.Mag, "Mig": ival.Mig}
}

func asks() map[string]func(x, y api.Ival) bool {
	return map[string]func(x, y api.Ival) bool{"Inside": ival.Inside, "Strict": ival.Strict}
}

// TestWrongCountsAsEmpty: one that may not be counts as the empty one, wherever it comes in.
func TestWrongCountsAsEmpty(t *testing.T) {
	for _, x := range wrong() {
		for name, call := range one() {
			if got := call(x); !sameIval(got, none) {
				t.Errorf("%s(%g) = %g", name, x, got)
			}
		}
		for name, call := range sizes() {
			if got := call(x); !same(got, 0) {
				t.Errorf("%s(%g) = %g", name, x, got)
			}
		}
		for _, v := range append(edgeEnds(), minus0, nan, 1.5) {
			if ival.Has(x, v) {
				t.Errorf("Has(%g, %g)", x, v)
			}
		}
		for _, y := range append(edges(), wrong()...) {
			for name, call := range two() {
				if got, want := call(x, y), call(none, y); !sameIval(got, want) {
					t.Errorf("%s(%g, %g) = %g, want %g", name, x, y, got, want)
				}
				if got, want := call(y, x), call(y, none); !sameIval(got, want) {
					t.Errorf("%s(%g, %g) = %g, want %g", name, y, x, got, want)
				}
			}
			for name, call := range asks() {
				if call(x, y) != call(none, y) || call(y, x) != call(y, none) {
					t.Errorf("%s of %g and %g", name, x, y)
				}
			}
		}
	}
}

// TestNothingElseIsAnswered: P1 and R5, at all ends that a struct can have.
func TestNothingElseIsAnswered(t *testing.T) {
	plain := func(name string, x api.Ival) {
		if !ival.Right(x) {
			t.Errorf("%s: %g is answered", name, x)
		}
	}
	given := append(edges(), wrong()...)
	for _, x := range given {
		for name, call := range one() {
			plain(name, call(x))
		}
		for name, call := range sizes() {
			if v := call(x); math.IsNaN(v) || v == 0 && math.Signbit(v) {
				t.Errorf("%s(%g) = %g", name, x, v)
			}
		}
		for _, v := range []float64{nan, inf, minus0, 1} {
			plain("Make", ival.Make(x.Lo, v))
			plain("Point", ival.Point(x.Lo))
			ival.Has(x, v)
		}
		for _, y := range given {
			for name, call := range two() {
				plain(name, call(x, y))
			}
			for _, call := range asks() {
				call(x, y)
			}
		}
	}
}

// TestExamples has all rows of the chapter's table.
func TestExamples(t *testing.T) {
	for n, c := range []struct{ got, want api.Ival }{
		{ival.Add(iv(1, 2), iv(0x1p-60, 1)), iv(1, 3)},
		{ival.Mul(iv(-1, 2), iv(3, 4)), iv(-4, 8)},
		{ival.Div(iv(1, 2), iv(0, 4)), iv(0.25, inf)},
		{ival.Div(iv(1, 2), iv(-1, 1)), all},
		{ival.Div(iv(1, 2), iv(0, 0)), none},
		{ival.Div(iv(0, 0), iv(0, 1)), iv(0, 0)},
		{ival.Sqr(iv(-1, 2)), iv(0, 4)},
		{ival.Sqrt(iv(-1, 4)), iv(0, 2)},
		{ival.Sqrt(iv(-2, -1)), none},
		{ival.Pow(iv(-2, 1), 3), iv(-8, 1)},
		{ival.Pow(iv(-2, 1), 2), iv(0, 4)},
	} {
		if !sameIval(c.got, c.want) {
			t.Errorf("example %d: %g, want %g", n, c.got, c.want)
		}
	}
	if ival.Mid(iv(1, 2)) != 1.5 || !same(ival.Mid(all), 0) || ival.Wid(iv(1, 2)) != 1 {
		t.Error("sizes")
	}
	if ival.Strict(iv(1, 2), iv(1, 3)) || !ival.Strict(iv(1, 2), iv(0, 3)) {
		t.Error("Strict")
	}
}
