package elem_test

import (
	"math"
	"testing"

	"orrery/api"
	"orrery/elem"
	"orrery/ival"
)

// greatestLog is the greatest float whose power of e is not above MAX.
const greatestLog = 0x1.62e42fefa39efp+9

// neighbours are v and the floats beside it.
func neighbours(vs ...float64) []float64 {
	var out []float64
	for _, v := range vs {
		out = append(out, down(v), v, up(v))
	}
	return out
}

func expEnds() []float64 {
	ends := withNegatives(inf, greatest, 1e10, 5000, 0.3, 1, 2, 1/3.0, 0x1p-52, 0x1p-53, 0x1p-54, 0x1p-1022, least, 100.25)
	ends = append(ends, neighbours(greatestLog, 710, -746, -745.13321910194, -744.44007192138, -708.39641853226, -650)...)
	for k := 0.5; k < 1000; k = 4*k + 1.5 { // where the multiple that is taken off changes
		ends = append(ends, k*math.Ln2, -k*math.Ln2)
	}
	return ends
}

// expRange has powers above MAX where they are, but none of what is so far that they would have no room.
func expRange(of func(v float64) number, x api.Ival) bounds {
	at := func(v float64) number {
		switch {
		case v > 1e6:
			return infinite(1)
		case v < -1e6:
			return numberOf(0)
		}
		return of(v)
	}
	out := bounds{at(x.Lo), at(x.Hi)}
	if out.u.IsInf() { // no range of floats has only infinite numbers
		out.u = scaled(numberOf(1), 5000)
	}
	return out
}

// TestExp is P3.2 of Exp.
func TestExp(t *testing.T) {
	of := kept(expOf)
	xs := append(between(expEnds()...), intervalsByChance(1500, chance(4, 750))...)
	for _, x := range xs {
		got := elem.Exp(x)
		checkGood(t, "Exp", x, got, expRange(of, x))
		if got.Lo < 0 {
			t.Errorf("Exp(%x) = %x", x, got)
		}
	}
}

// TestExpAtTheTop says by hand what is asked for where powers come to be above MAX.
func TestExpAtTheTop(t *testing.T) {
	top := up(greatestLog)
	for _, c := range []struct {
		x    api.Ival
		want func(y api.Ival) bool
	}{
		{iv(greatestLog, greatestLog), func(y api.Ival) bool { return y.Hi <= greatest && y.Lo < y.Hi }},
		{iv(greatestLog, top), func(y api.Ival) bool { return y.Lo < greatest && y.Hi == inf }},
		{iv(top, top), func(y api.Ival) bool { return y == iv(greatest, inf) }},
		{iv(top, inf), func(y api.Ival) bool { return y == iv(greatest, inf) }},
		{iv(greatest, greatest), func(y api.Ival) bool { return y == iv(greatest, inf) }},
		{iv(-greatest, -greatest), func(y api.Ival) bool { return y.Lo == 0 && y.Hi >= least && y.Hi <= 0x1p-1060 }},
		{all, func(y api.Ival) bool { return y == iv(0, inf) }},
	} {
		if got := elem.Exp(c.x); !c.want(got) {
			t.Errorf("Exp(%x) = %x", c.x, got)
		}
	}
}

func logEnds() []float64 {
	ends := []float64{-inf, -greatest, -1, -least, 0, inf}
	ends = append(ends, neighbours(1, 2, 0.5, math.Sqrt2, math.Sqrt2/2, math.Sqrt2*2, math.E, 10, 1e-300, 0x1p-1022, 0x1p1000)...)
	for n := 1.0; n < 1e16; n *= 40 { // nearer and nearer to 1
		ends = append(ends, 1+1/n, 1-1/(2*n))
	}
	return append(ends, least, 2*least, 3*least, down(greatest), greatest)
}

func checkLog(t *testing.T, of func(v float64) number, x api.Ival) {
	t.Helper()
	got := elem.Log(x)
	if x.Hi <= 0 {
		if got != none {
			t.Errorf("Log(%x) = %x", x, got)
		}
		return
	}
	want := bounds{infinite(-1), infinite(1)}
	if x.Lo > 0 {
		want.u = of(x.Lo)
	}
	if x.Hi < inf {
		want.v = of(x.Hi)
	}
	checkGood(t, "Log", x, got, want)
}

// TestLog is P3.2 of Log.
func TestLog(t *testing.T) {
	of := kept(logOf)
	for _, x := range between(logEnds()...) {
		checkLog(t, of, x)
	}
	for _, x := range intervalsByChance(500, chance(5, 3)) {
		checkLog(t, of, x)
		checkLog(t, of, ival.Neg(x))
	}
}
