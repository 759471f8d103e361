package ival_test

// What the chapter says in words, gone through in exact numbers of an interval: its ends and those near 0, and, where it has no end, one that no float reaches.

import (
	"math"
	"math/big"
	"math/rand"

	"orrery/api"
)

const (
	bitsKept = 4600 // enough for the exact sum of the greatest and the least number below
	farAway  = 2200 // 2^2200, and 2^-2200: beyond floats, also beside a factor or a divisor that is one
)

var (
	inf      = math.Inf(1)
	nan      = math.NaN()
	minus0   = math.Copysign(0, -1)
	least    = math.SmallestNonzeroFloat64
	greatest = math.MaxFloat64
	none     = api.Ival{Lo: inf, Hi: -inf}
	all      = api.Ival{Lo: -inf, Hi: inf}
)

func iv(lo, hi float64) api.Ival { return api.Ival{Lo: lo, Hi: hi} }

type number = *big.Float

func fresh() number { return new(big.Float).SetPrec(bitsKept) }

// numberOf is a finite float, or stands for those beyond all floats.
func numberOf(v float64) number {
	if math.IsInf(v, 0) {
		return fresh().SetMantExp(fresh().SetFloat64(math.Copysign(1, v)), farAway)
	}
	return fresh().SetFloat64(v)
}

// members are numbers that x holds, among them those that make the least and the greatest of what is made.
func members(x api.Ival) []number {
	if x == none {
		return nil
	}
	tiny := fresh().SetMantExp(big.NewFloat(1), -farAway)
	out := []number{numberOf(x.Lo), numberOf(x.Hi)}
	for _, v := range []number{fresh(), tiny, fresh().Neg(tiny)} {
		if held(v, x) {
			out = append(out, v)
		}
	}
	return out
}

// held tells whether x, not empty, holds v.
func held(v number, x api.Ival) bool {
	above := math.IsInf(x.Lo, -1) || v.Cmp(numberOf(x.Lo)) >= 0
	below := math.IsInf(x.Hi, 1) || v.Cmp(numberOf(x.Hi)) <= 0
	return x != none && above && below
}

// roundedTo is v rounded down (-1), to the nearest (0) or up (1).
func roundedTo(v number, dir int) float64 {
	f, side := v.Float64()
	switch {
	case dir < 0 && side == big.Above:
		f = math.Nextafter(f, -inf)
	case dir > 0 && side == big.Below:
		f = math.Nextafter(f, inf)
	}
	if f == 0 {
		return 0
	}
	return f
}

// leastOf is the least interval of some numbers.
func leastOf(vs []number) api.Ival {
	out := none
	for _, v := range vs {
		out.Lo = min(out.Lo, roundedTo(v, -1))
		out.Hi = max(out.Hi, roundedTo(v, 1))
	}
	return out
}

// ofPairs is the least interval of what make makes of pairs.
func ofPairs(x, y api.Ival, make func(a, b number) number) api.Ival {
	var made []number
	for _, a := range members(x) {
		for _, b := range members(y) {
			if v := make(a, b); v != nil {
				made = append(made, v)
			}
		}
	}
	return leastOf(made)
}

func sum(a, b number) number { return fresh().Add(a, b) }

func difference(a, b number) number { return fresh().Sub(a, b) }

func product(a, b number) number { return fresh().Mul(a, b) }

func quotient(a, b number) number {
	if b.Sign() == 0 {
		return nil
	}
	return fresh().Quo(a, b)
}

// root has few bits: no root of a float is so near to another float, and not it.
func root(a number) number {
	if a.Sign() < 0 {
		return nil
	}
	return new(big.Float).SetPrec(300).Sqrt(a)
}

// same tells +0 and -0 apart.
func same(a, b float64) bool { return math.Float64bits(a) == math.Float64bits(b) }

func sameIval(x, y api.Ival) bool { return same(x.Lo, y.Lo) && same(x.Hi, y.Hi) }

// between are all intervals with these ends, and the empty one.
func between(ends ...float64) []api.Ival {
	out := []api.Ival{none}
	for _, lo := range ends {
		for _, hi := range ends {
			if lo <= hi && lo < inf && hi > -inf {
				out = append(out, iv(lo, hi))
			}
		}
	}
	return out
}

func edgeEnds() []float64 {
	return []float64{-inf, -greatest, -3, -1, -1 / 3.0, -least, 0, least, 1 / 3.0, 1, 3, greatest, inf}
}

func edges() []api.Ival { return between(edgeEnds()...) }

// manyEdges are more than can be held against each other in pairs.
func manyEdges() []api.Ival {
	ends := []float64{-inf, 0, inf}
	for _, v := range []float64{least, 3 * least, 4 * least, 0x1p-1022, 0x1p-538, 0x1p-537, 0x1p-20, 1 / 3.0, 1 - 0x1p-53, 1, 1 + 0x1p-52, 1.5, 2, 2.5, 3, 1e10, 0x1p512, 1e200, greatest / 2, math.Nextafter(greatest, 0), greatest} {
		ends = append(ends, v, -v)
	}
	return between(ends...)
}

// wrong are intervals that may not be.
func wrong() []api.Ival {
	return []api.Ival{
		iv(nan, 1), iv(1, nan), iv(nan, nan), iv(inf, nan), iv(nan, -inf), iv(-inf, nan),
		iv(minus0, 1), iv(-1, minus0), iv(minus0, minus0), iv(minus0, 0), iv(0, minus0), iv(minus0, inf), iv(-inf, minus0),
		iv(2, 1), iv(1, -1), iv(math.Nextafter(1, 2), 1), iv(greatest, -greatest), iv(least, 0),
		iv(inf, inf), iv(-inf, -inf), iv(inf, 1), iv(1, -inf), iv(inf, greatest), iv(-greatest, -inf), iv(inf, minus0),
	}
}

// chance draws intervals: of any floats, or of some of like size, a point now and then.
func chance(seed int64) func() api.Ival {
	r := rand.New(rand.NewSource(seed))
	end := func() float64 {
		for {
			v := math.Float64frombits(r.Uint64())
			if r.Intn(3) > 0 {
				v = math.Ldexp(r.Float64()-0.5, r.Intn(8))
			}
			if v == v && v != 0 && !math.IsInf(v, 0) {
				return v
			}
		}
	}
	return func() api.Ival {
		a := end()
		b := a
		switch r.Intn(4) {
		case 0:
			b = end()
		case 1:
			b = a * (1 + r.Float64())
		case 2:
			b = math.Nextafter(a, inf)
		}
		if math.IsInf(b, 0) {
			b = a
		}
		return iv(min(a, b), max(a, b))
	}
}
