package ulp_test

import (
	"math"
	"math/rand"
	"testing"

	"orrery/api"
	"orrery/ulp"
)

const (
	least    = math.SmallestNonzeroFloat64
	greatest = math.MaxFloat64
)

var (
	inf     = math.Inf(1)
	nan     = math.NaN()
	minus0  = math.Copysign(0, -1)
	allDirs = []int{math.MinInt, -7, -1, 0, 1, 9, math.MaxInt}
)

// powerOf2 is 2^e, as a float.
func powerOf2(e int) float64 { return math.Ldexp(1, e) }

// column is where rounded's answers have that of dir.
func column(dir int) int {
	switch {
	case dir < 0:
		return 0
	case dir > 0:
		return 2
	}
	return 1
}

// same is whether two answers are one: NAN is NAN, and -0 is never right.
func same(got, want float64) bool {
	if math.IsNaN(got) || math.IsNaN(want) {
		return math.IsNaN(got) && math.IsNaN(want)
	}
	return math.Float64bits(got) == math.Float64bits(want)
}

// edgeAmounts are finite, and 0 or more.
func edgeAmounts() []float64 {
	return []float64{
		0, least, 2 * least, 3 * least, 5 * least,
		powerOf2(-1023), powerOf2(-1022) - least, powerOf2(-1022), powerOf2(-1022) + least, 3 * powerOf2(-1023),
		powerOf2(-538), powerOf2(-537), powerOf2(-511) * 1.5, 1 / 3.0 * powerOf2(-500),
		powerOf2(-106), powerOf2(-64), powerOf2(-63), powerOf2(-62), powerOf2(-55), powerOf2(-54), powerOf2(-53), 3 * powerOf2(-54), powerOf2(-52),
		0.1, 1 / 3.0, 0.5, 1 - powerOf2(-53), 1, 1 + powerOf2(-52), 1 + powerOf2(-51), 1.5, 2 - powerOf2(-52), 2, 3, 4, math.Pi, 10,
		powerOf2(52), powerOf2(53) - 1, powerOf2(53), powerOf2(64), 1e22, 6004799503160661,
		powerOf2(511) * 1.5, powerOf2(512), powerOf2(969), powerOf2(970), powerOf2(970) + powerOf2(918), powerOf2(971), powerOf2(1022), powerOf2(1023),
		greatest / 2, greatest - powerOf2(971), greatest,
	}
}

// edges are finite floats of both signs, with both zeros.
func edges() []float64 {
	var all []float64
	for _, x := range edgeAmounts() {
		all = append(all, x, -x)
	}
	return append(all, minus0)
}

// chance makes floats that are the same in each run: of all sizes, and also with few bits set, so that ties come.
func chance(seed int64) func() float64 {
	r := rand.New(rand.NewSource(seed))
	return func() float64 {
		for {
			b := r.Uint64()
			if r.Intn(2) == 0 {
				b &^= 1<<uint(r.Intn(53)) - 1
			}
			if r.Intn(2) == 0 { // near 1, so that two have bits at the same places
				b = b&^(0x7FF<<52) | uint64(1023-40+r.Intn(80))<<52
			}
			if x := math.Float64frombits(b); !math.IsNaN(x) && !math.IsInf(x, 0) {
				return x
			}
		}
	}
}

func TestNextAndPrevEdges(t *testing.T) {
	for _, c := range []struct{ x, next, prev float64 }{
		{0, least, -least},
		{minus0, least, -least},
		{least, 2 * least, 0},
		{-least, 0, -2 * least},
		{powerOf2(-1022), powerOf2(-1022) + least, powerOf2(-1022) - least},
		{-powerOf2(-1022), least - powerOf2(-1022), -powerOf2(-1022) - least},
		{1, 1 + powerOf2(-52), 1 - powerOf2(-53)},
		{-1, powerOf2(-53) - 1, -1 - powerOf2(-52)},
		{2, 2 + powerOf2(-51), 2 - powerOf2(-52)},
		{greatest, inf, greatest - powerOf2(971)},
		{-greatest, powerOf2(971) - greatest, -inf},
		{inf, inf, greatest},
		{-inf, -greatest, -inf},
		{nan, nan, nan},
		{-nan, nan, nan},
		{math.Float64frombits(0x7FF0000000000001), nan, nan},
		{math.Float64frombits(0xFFFFFFFFFFFFFFFF), nan, nan},
	} {
		if got := ulp.Next(c.x); !same(got, c.next) {
			t.Errorf("Next(%g) = %g, want %g", c.x, got, c.next)
		}
		if got := ulp.Prev(c.x); !same(got, c.prev) {
			t.Errorf("Prev(%g) = %g, want %g", c.x, got, c.prev)
		}
	}
}

func TestNextAndPrevAreNeighbours(t *testing.T) {
	draw := chance(1)
	xs := edges()
	for range 5000 {
		xs = append(xs, draw())
	}
	for _, x := range xs {
		if got, want := ulp.Next(x), floatAt(place(x)+1); !same(got, want) {
			t.Errorf("Next(%g) = %g, want %g", x, got, want)
		}
		if got, want := ulp.Prev(x), floatAt(place(x)-1); !same(got, want) {
			t.Errorf("Prev(%g) = %g, want %g", x, got, want)
		}
	}
}

func TestSplitEdges(t *testing.T) {
	for _, c := range []struct {
		x  float64
		p  api.Parts
		is bool
	}{
		{0, api.Parts{}, true},
		{minus0, api.Parts{}, true},
		{least, api.Parts{M: 1, E: -1074}, true},
		{-least, api.Parts{Neg: true, M: 1, E: -1074}, true},
		{powerOf2(-1022) - least, api.Parts{M: 1<<52 - 1, E: -1074}, true},
		{powerOf2(-1022), api.Parts{M: 1 << 52, E: -1074}, true},
		{powerOf2(-1021), api.Parts{M: 1 << 52, E: -1073}, true},
		{1, api.Parts{M: 1 << 52, E: -52}, true},
		{-1.5, api.Parts{Neg: true, M: 3 << 51, E: -52}, true},
		{powerOf2(53) - 1, api.Parts{M: 1<<53 - 1, E: 0}, true},
		{greatest, api.Parts{M: 1<<53 - 1, E: 971}, true},
		{-greatest, api.Parts{Neg: true, M: 1<<53 - 1, E: 971}, true},
		{inf, api.Parts{}, false},
		{-inf, api.Parts{}, false},
		{nan, api.Parts{}, false},
		{-nan, api.Parts{}, false},
	} {
		if p, is := ulp.Split(c.x); p != c.p || is != c.is {
			t.Errorf("Split(%g) = %v, %v, want %v, %v", c.x, p, is, c.p, c.is)
		}
	}
}

func TestSplitIsTheNumber(t *testing.T) {
	draw := chance(2)
	xs := edges()
	for range 2000 {
		xs = append(xs, draw())
	}
	for _, x := range xs {
		p, is := ulp.Split(x)
		switch {
		case !is || p.Neg != (x < 0):
			t.Errorf("Split(%g) = %v, %v", x, p, is)
		case x == 0 && p != api.Parts{}:
			t.Errorf("Split(%g) = %v", x, p)
		case x != 0 && (p.M >= 1<<53 || p.M < 1<<52 && p.E != -1074):
			t.Errorf("Split(%g) = %v: not in its form", x, p)
		case scaled(p.Neg, p.M, p.E).compare(numberOf(x)) != 0:
			t.Errorf("Split(%g) = %v: another number", x, p)
		}
		for _, dir := range allDirs {
			if got := ulp.Round(p, dir); !same(got, withoutSign(x)) {
				t.Errorf("Round(Split(%g), %d) = %g", x, dir, got)
			}
		}
	}
}
