package elem_test

import (
	"math"
	"testing"

	"orrery/api"
	"orrery/elem"
	"orrery/ival"
)

type call = func(x api.Ival) api.Ival

// calls are all that are made of an interval.
func calls() map[string]call {
	return map[string]call{
		"Exp": elem.Exp, "Log": elem.Log, "Sin": elem.Sin, "Cos": elem.Cos, "Atan": elem.Atan,
		"Tan": elem.Tan, "Sinh": elem.Sinh, "Cosh": elem.Cosh, "Tanh": elem.Tanh,
	}
}

// someIntervals have ends of all sizes, those among them at which something changes.
func someIntervals() []api.Ival {
	ends := withNegatives(inf, greatest, 1e300, 1<<20, up(1<<20), 2000, 1000, 746, 710, 709.7, math.Pi, math.Pi/2, 1.5, 1, 0.25, 1e-9, 0x1p-1022, least)
	return append(between(ends...), intervalsByChance(300, chance(1, 20))...)
}

// leastInterval is that of a number that is no float.
func leastInterval(v number) api.Ival {
	f := float(v)
	if v.Cmp(numberOf(f)) < 0 {
		return iv(down(f), f)
	}
	return iv(f, up(f))
}

// TestConstants is P3.1.
func TestConstants(t *testing.T) {
	if got, want := elem.Pi(), leastInterval(piNumber()); got != want {
		t.Errorf("Pi() = %x, want %x", got, want)
	}
	if got, want := elem.Ln2(), leastInterval(ln2Number()); got != want {
		t.Errorf("Ln2() = %x, want %x", got, want)
	}
}

func TestFineConstants(t *testing.T) {
	ln2, ln2Rest := elem.FineLn2()
	halfPi, halfPiRest := elem.FineHalfPi()
	for _, c := range []struct {
		name string
		head float64
		rest api.Ival
		of   number
		many float64 // so many times the head must be exact
	}{
		{"ln 2", ln2, ln2Rest, ln2Number(), 1 << 11},
		{"pi / 2", halfPi, halfPiRest, scaled(piNumber(), -1), 1 << 20},
	} {
		if want := leastInterval(minus(c.of, numberOf(c.head))); c.rest != want {
			t.Errorf("%s: the rest is %x, want %x", c.name, c.rest, want)
		}
		for _, k := range []float64{c.many - 1, c.many/2 + 1, c.many/3 + 1} {
			k = math.Floor(k)
			if times(numberOf(k), numberOf(c.head)).Cmp(numberOf(k*c.head)) != 0 {
				t.Errorf("%s: %g times the head is rounded", c.name, k)
			}
		}
	}
}

// TestSeriesGoFarEnough asks for the series where their rest is greatest: at the ends of what they are said to take.
func TestSeriesGoFarEnough(t *testing.T) {
	shares := func(z float64) number { // of z = 1/16 and -1/16: the area tangent, and the angle, of a quarter
		if z > 0 {
			return scaled(logOf(by(numberOf(5), numberOf(3))), 1)
		}
		return scaled(angleOfShare(4), 2)
	}
	for _, v := range []float64{1, -1} {
		sin, cos := sinAndCosOf(numberOf(v))
		for _, c := range []struct {
			name string
			got  api.Ival
			want number
		}{
			{"powersOfE", elem.PowersOfE(iv(v, v)), expOf(numberOf(v))},
			{"turned: cosine", elem.Turned(iv(v, v), 0), cos},
			{"turned: sine", elem.Turned(iv(v, v), 1), by(sin, numberOf(v))},
			{"oddShares", elem.OddShares(iv(v/16, v/16)), shares(v)},
		} {
			if !holds(c.got, c.want) || ival.Wid(c.got) > 0x1p-40 {
				t.Errorf("%s at %g: %g, want %g", c.name, v, c.got, float(c.want))
			}
		}
	}
}

// holds tells whether x goes round v.
func holds(x api.Ival, v number) bool {
	return fresh().SetFloat64(x.Lo).Cmp(v) <= 0 && fresh().SetFloat64(x.Hi).Cmp(v) >= 0
}

// tolerance is T of the chapter.
func tolerance(w number) number { return plus(scaled(amount(w), -38), scaled(numberOf(1), -1060)) }

// goodLo tells whether lo may be the Lo of a good result.
func goodLo(lo float64, u number) bool {
	switch {
	case u.IsInf():
		return math.IsInf(lo, -1)
	case u.Cmp(numberOf(greatest)) > 0:
		return lo == greatest
	}
	return !math.IsInf(lo, 0) && numberOf(lo).Cmp(u) <= 0 && numberOf(lo).Cmp(minus(u, tolerance(u))) >= 0
}

func goodHi(hi float64, v number) bool {
	if v.IsInf() || v.Cmp(numberOf(greatest)) > 0 {
		return math.IsInf(hi, 1)
	}
	return !math.IsInf(hi, 0) && numberOf(hi).Cmp(v) >= 0 && numberOf(hi).Cmp(plus(v, tolerance(v))) <= 0
}

func checkGood(t *testing.T, name string, x, got api.Ival, want bounds) {
	t.Helper()
	if !ival.Right(got) || !goodLo(got.Lo, want.u) || !goodHi(got.Hi, want.v) {
		t.Errorf("%s(%x) = %x, want bounds %g and %g", name, x, got, float(want.u), float(want.v))
	}
}

// TestNothingOfNothing: the empty one, and those that may not be, have no range.
func TestNothingOfNothing(t *testing.T) {
	for _, x := range append(wrong(), none) {
		for name, call := range calls() {
			if got := call(x); got != none {
				t.Errorf("%s(%g) = %g", name, x, got)
			}
		}
	}
}

// TestOnlyWhatMayBe: P1 and R5, and what is empty is so for a reason.
func TestOnlyWhatMayBe(t *testing.T) {
	for _, x := range someIntervals() {
		for name, call := range calls() {
			got := call(x)
			if !ival.Right(got) {
				t.Errorf("%s(%g) = %g", name, x, got)
			}
			if (got == none) != (name == "Log" && x.Hi <= 0) {
				t.Errorf("%s(%g) = %g: empty, or not", name, x, got)
			}
		}
	}
}

// TestMadeOfOthers is P3.4, end by end.
func TestMadeOfOthers(t *testing.T) {
	one, two, half := iv(1, 1), iv(2, 2), iv(0.5, 0.5)
	for _, x := range append(append(someIntervals(), wrong()...), none) {
		for _, c := range []struct {
			name      string
			got, want api.Ival
		}{
			{"Tan", elem.Tan(x), ival.Div(elem.Sin(x), elem.Cos(x))},
			{"Sinh", elem.Sinh(x), ival.Mul(half, ival.Sub(elem.Exp(x), elem.Exp(ival.Neg(x))))},
			{"Cosh", elem.Cosh(x), ival.Mul(half, ival.Add(elem.Exp(x), elem.Exp(ival.Neg(x))))},
			{"Tanh", elem.Tanh(x), ival.Sub(one, ival.Div(two, ival.Add(elem.Exp(ival.Add(x, x)), one)))},
		} {
			if c.got != c.want {
				t.Errorf("%s(%g) = %x, want %x", c.name, x, c.got, c.want)
			}
		}
	}
}

// TestMadeOfOthersHold asks whether what is made of others holds the functions that they are called by.
func TestMadeOfOthersHold(t *testing.T) {
	draw := chance(2, 20)
	for range 200 {
		v := draw()
		if math.Abs(v) > 700 {
			continue
		}
		x, e := iv(v, v), expOf(numberOf(v))
		back := by(numberOf(1), e)
		sin, cos := sinAndCosOf(numberOf(v))
		for _, c := range []struct {
			name string
			got  api.Ival
			want number
		}{
			{"Tan", elem.Tan(x), by(sin, cos)},
			{"Sinh", elem.Sinh(x), scaled(minus(e, back), -1)},
			{"Cosh", elem.Cosh(x), scaled(plus(e, back), -1)},
			{"Tanh", elem.Tanh(x), by(minus(e, back), plus(e, back))},
		} {
			if !holds(c.got, c.want) {
				t.Errorf("%s(%g) = %g, without %g", c.name, v, c.got, float(c.want))
			}
		}
	}
}

// TestWhatFollows is the first two parts of P3.5.
func TestWhatFollows(t *testing.T) {
	for _, x := range someIntervals() {
		if back := elem.Log(elem.Exp(x)); !ival.Inside(x, back) {
			t.Errorf("Log(Exp(%x)) = %x", x, back)
		}
		if sum := ival.Add(ival.Sqr(elem.Sin(x)), ival.Sqr(elem.Cos(x))); !ival.Has(sum, 1) {
			t.Errorf("of %x: sine and cosine, squared and added, are %x", x, sum)
		}
	}
}

// TestGreaterHoldsSmaller is the last part of P3.5: parts of x have values that x's result holds.
func TestGreaterHoldsSmaller(t *testing.T) {
	exact := map[string]func(v float64) number{
		"Exp": kept(expOf), "Log": kept(logOf), "Sin": kept(sinOf), "Cos": kept(cosOf), "Atan": kept(atanOf),
	}
	for _, x := range intervalsByChance(150, chance(3, 700)) {
		x = ival.Meet(x, iv(-700, 700))
		for _, v := range []float64{x.Lo, x.Hi, ival.Mid(x), 1, math.Pi / 2} {
			for name, of := range exact {
				if !ival.Has(x, v) || name == "Log" && v <= 0 {
					continue
				}
				if got := calls()[name](x); !holds(got, of(v)) {
					t.Errorf("%s(%x) = %x, without the value at %x", name, x, got, v)
				}
			}
		}
	}
}

// TestExamples has all rows of the chapter's table.
func TestExamples(t *testing.T) {
	if x := elem.Exp(iv(0, 0)); !ival.Has(x, 1) {
		t.Error(x)
	}
	if x := elem.Log(iv(1, 1)); !ival.Has(x, 0) || ival.Wid(x) > 0x1p-1059 {
		t.Error(x)
	}
	if x := elem.Exp(iv(1000, 1001)); x != iv(greatest, inf) {
		t.Error(x)
	}
	if x := elem.Exp(iv(-inf, 0)); x.Lo != 0 || !ival.Has(x, 1) {
		t.Error(x)
	}
	if x := elem.Log(iv(-1, 1)); x.Lo != -inf || !ival.Has(x, 0) {
		t.Error(x)
	}
	if x := elem.Log(iv(-2, -1)); x != none {
		t.Error(x)
	}
	if x := elem.Sin(iv(0, 4)); x.Hi != 1 || x.Lo > -0.7568 || x.Lo <= -0.7569 {
		t.Error(x)
	}
	if x := elem.Sin(iv(0, 2000)); !ival.Inside(x, iv(-1, 1)) {
		t.Error(x)
	}
}
