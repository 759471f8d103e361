package elem_test

import (
	"math"
	"testing"

	"orrery/api"
	"orrery/elem"
	"orrery/ival"
)

func atanRange(of func(v float64) number, x api.Ival) bounds {
	at := func(v float64) number {
		if math.IsInf(v, 0) {
			return times(numberOf(math.Copysign(0.5, v)), piNumber())
		}
		return of(v)
	}
	return bounds{at(x.Lo), at(x.Hi)}
}

// TestAtan is P3.2 of Atan.
func TestAtan(t *testing.T) {
	of := kept(atanOf)
	ends := withNegatives(neighbours(0.25, 1, 0.5, 2, 4, math.Sqrt2-1, math.Sqrt2+1)...)
	ends = append(ends, withNegatives(inf, greatest, down(greatest), 1e300, 1e16, 1e8, 1000, 1.5, 1/3.0, 0.1, 0x1p-26, 0x1p-27, 1e-100, 0x1p-537, 0x1p-538, 0x1p-1022, 5*least, least)...)
	xs := append(between(ends...), intervalsByChance(500, chance(6, 4))...)
	for _, x := range xs {
		got := elem.Atan(x)
		checkGood(t, "Atan", x, got, atanRange(of, x))
		if !ival.Inside(got, iv(-2, 2)) {
			t.Errorf("Atan(%x) = %x", x, got)
		}
	}
}
