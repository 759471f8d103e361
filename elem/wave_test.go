package elem_test

import (
	"math"
	"math/big"
	"testing"

	"orrery/api"
	"orrery/elem"
	"orrery/ival"
)

// quarterNumber is how many quarters of a turn v is, rounded down.
func quarterNumber(v float64, halfPi number) *big.Int {
	q := by(numberOf(v), halfPi)
	n, _ := q.Int(nil) // cut towards 0
	if q.Sign() < 0 && !q.IsInt() {
		n.Sub(n, big.NewInt(1))
	}
	return n
}

// passes tells whether a number of quarters that is as phase is, but for whole turns, lies in x.
func passes(x api.Ival, phase int64, halfPi number) bool {
	first, last := quarterNumber(x.Lo, halfPi), quarterNumber(x.Hi, halfPi)
	if x.Lo != 0 { // 0 alone is itself a whole number of quarters
		first.Add(first, big.NewInt(1))
	}
	forward := new(big.Int).Sub(big.NewInt(phase), first)
	forward.Mod(forward, big.NewInt(4)) // from 0 to 3
	return forward.Add(forward, first).Cmp(last) <= 0
}

// waveRange is the range of the sine (ahead 0) or the cosine (ahead 1) over a bounded x.
func waveRange(of func(v float64) number, x api.Ival, ahead int64, halfPi number) bounds {
	out := bounds{of(x.Lo), of(x.Hi)}
	if out.u.Cmp(out.v) > 0 {
		out.u, out.v = out.v, out.u
	}
	if passes(x, 1-ahead, halfPi) {
		out.v = numberOf(1)
	}
	if passes(x, 3-ahead, halfPi) {
		out.u = numberOf(-1)
	}
	return out
}

// checkWave is P3.3 of one call.
func checkWave(t *testing.T, name string, x, got api.Ival, want bounds) {
	t.Helper()
	if !ival.Right(got) || got == none || !ival.Inside(got, iv(-1, 1)) || !holds(got, want.u) || !holds(got, want.v) {
		t.Errorf("%s(%x) = %x, want what holds %g to %g", name, x, got, float(want.u), float(want.v))
		return
	}
	if ival.Mag(x) > 1000 {
		return
	}
	room := numberOf(0x1p-36)
	if numberOf(got.Lo).Cmp(minus(want.u, room)) < 0 || numberOf(got.Hi).Cmp(plus(want.v, room)) > 0 {
		t.Errorf("%s(%x) = %x is too great for %g to %g", name, x, got, float(want.u), float(want.v))
	}
}

// waveEnds are floats about quarters of turns, where they change most, up to 1000 and beyond.
func waveEnds() []float64 {
	ends := neighbours(1000, 999.5, 0.1, 1, 2000)
	for _, k := range []float64{0.5, 1, 1.5, 2, 3, 4, 5, 100, 633, 634, 635, 636} {
		ends = append(ends, neighbours(k*math.Pi/2)...)
	}
	return withNegatives(append(ends, least, 0x1p-1022, 0x1p-538, 0x1p-27, 1<<20, up(1<<20), 1e6, 1e15, 0x1p60)...)
}

// TestWaves is P3.3 where ends are bounded.
func TestWaves(t *testing.T) {
	sin, cos := kept(sinOf), kept(cosOf)
	halfPi := scaled(piNumber(), -1)
	xs := between(waveEnds()...)
	for _, x := range intervalsByChance(1200, chance(7, 1000)) {
		xs = append(xs, ival.Meet(x, iv(-0x1p60, 0x1p60)))
	}
	for _, x := range intervalsByChance(600, chance(8, 8)) {
		xs = append(xs, ival.Meet(x, iv(-20, 20)))
	}
	for _, x := range xs {
		if x == none {
			continue
		}
		checkWave(t, "Sin", x, elem.Sin(x), waveRange(sin, x, 0, halfPi))
		checkWave(t, "Cos", x, elem.Cos(x), waveRange(cos, x, 1, halfPi))
	}
}

// TestWavesWithoutEnd: an interval without an end has all values; one that is very far away some.
func TestWavesWithoutEnd(t *testing.T) {
	for _, x := range []api.Ival{all, iv(-inf, 0), iv(0, inf), iv(-inf, -greatest), iv(greatest, inf), iv(-greatest, greatest), iv(0, 1e300)} {
		if sin, cos := elem.Sin(x), elem.Cos(x); sin != iv(-1, 1) || cos != iv(-1, 1) {
			t.Errorf("of %g: %g and %g", x, sin, cos)
		}
	}
	for _, v := range []float64{greatest, -greatest, 1e300, -1e22} {
		s, c := sinAndCosOf(numberOf(v))
		if sin, cos := elem.Sin(iv(v, v)), elem.Cos(iv(v, v)); !holds(sin, s) || !holds(cos, c) || !ival.Inside(sin, iv(-1, 1)) || !ival.Inside(cos, iv(-1, 1)) {
			t.Errorf("of %g: %g and %g", v, sin, cos)
		}
	}
}
