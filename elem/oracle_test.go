package elem_test

// The functions of exact numbers, in thousands of bits, by other ways than the package's: sums of long series at arguments halved often, and Newton's way for what turns them round. Where a value is a float (as at 0) it is exact; elsewhere it never is one, and so many bits tell on which side of each float it lies.

import (
	"math"
	"math/big"
	"math/rand"

	"orrery/api"
)

// bitsKept tell x - x^3/3 from x, where x is the least float.
const bitsKept = 2400

var (
	inf      = math.Inf(1)
	nan      = math.NaN()
	minus0   = math.Copysign(0, -1)
	least    = math.SmallestNonzeroFloat64
	greatest = math.MaxFloat64
	none     = api.Ival{Lo: inf, Hi: -inf}
	all      = api.Ival{Lo: -inf, Hi: inf}
)

func iv(lo, hi float64) api.Ival { return api.Ival{Lo: lo, Hi: hi} }

func up(v float64) float64 { return math.Nextafter(v, inf) }

func down(v float64) float64 { return math.Nextafter(v, -inf) }

type number = *big.Float

func fresh() number { return new(big.Float).SetPrec(bitsKept) }

func numberOf(v float64) number { return fresh().SetFloat64(v) }

func plus(a, b number) number { return fresh().Add(a, b) }

func minus(a, b number) number { return fresh().Sub(a, b) }

func times(a, b number) number { return fresh().Mul(a, b) }

func by(a, b number) number { return fresh().Quo(a, b) }

func scaled(a number, e int) number { return fresh().SetMantExp(a, e) }

func amount(a number) number { return fresh().Abs(a) }

// negligible tells whether a is nothing beside b.
func negligible(a, b number) bool {
	return a.Sign() == 0 || a.MantExp(nil) < b.MantExp(nil)-bitsKept-10
}

// halved is x divided by two until it is small, and how often that was.
func halved(x number) (number, int) {
	times := max(0, x.MantExp(nil)+20)
	return scaled(x, -times), times
}

// expOf goes through e^x = (e^(x / 2^k))^(2^k).
func expOf(x number) number {
	r, often := halved(x)
	sum, term := numberOf(1), numberOf(1)
	for n := 1; !negligible(term, sum); n++ {
		term = by(times(term, r), numberOf(float64(n)))
		sum = plus(sum, term)
	}
	for range often {
		sum = times(sum, sum)
	}
	return sum
}

// sinAndCosOf doubles a small angle.
func sinAndCosOf(x number) (sin, cos number) {
	r, often := halved(x)
	square := times(r, r)
	sin, cos = numberOf(0), numberOf(0)
	odd, even := fresh().Set(r), numberOf(1)
	for n := 1.0; !negligible(even, numberOf(1)) || !negligible(odd, r); n += 2 {
		cos, sin = plus(cos, even), plus(sin, odd)
		even = fresh().Neg(by(times(even, square), numberOf(n*(n+1))))
		odd = fresh().Neg(by(times(odd, square), numberOf((n+1)*(n+2))))
	}
	for range often {
		sin, cos = scaled(times(sin, cos), 1), minus(numberOf(1), scaled(times(sin, sin), 1))
	}
	return sin, cos
}

func sinOf(x number) number {
	s, _ := sinAndCosOf(x)
	return s
}

func cosOf(x number) number {
	_, c := sinAndCosOf(x)
	return c
}

// logOf takes an x above 0, and trebles the bits that are right each time.
func logOf(x number) number {
	fraction, e := math.Frexp(float(x))
	y := numberOf(math.Log1p(float(minus(x, numberOf(1)))))
	if e < 0 || e > 1 {
		y = numberOf(math.Log(fraction) + float64(e)*math.Ln2)
	}
	for range 5 {
		p := expOf(y)
		y = plus(y, scaled(by(minus(x, p), plus(x, p)), 1))
	}
	return y
}

func float(x number) float64 {
	v, _ := x.Float64()
	return v
}

// atanOf turns tangents above 1 round, and doubles the bits that are right each time.
func atanOf(x number) number {
	if amount(x).Cmp(numberOf(1)) > 0 {
		rest := atanOf(by(numberOf(1), x))
		quarter := scaled(piNumber(), -1)
		if x.Sign() < 0 {
			quarter = fresh().Neg(quarter)
		}
		return minus(quarter, rest)
	}
	y := numberOf(math.Atan(float(x)))
	for range 6 {
		s, c := sinAndCosOf(y)
		y = minus(y, times(c, minus(s, times(x, c))))
	}
	return y
}

// angleOfShare is the angle whose tangent is 1 / n.
func angleOfShare(n float64) number {
	power, sum := by(numberOf(1), numberOf(n)), numberOf(0)
	for k := 1.0; !negligible(power, numberOf(1)); k += 4 {
		sum = plus(sum, by(power, numberOf(k)))
		power = by(power, numberOf(n*n))
		sum = minus(sum, by(power, numberOf(k+2)))
		power = by(power, numberOf(n*n))
	}
	return sum
}

// piNumber goes Machin's way.
func piNumber() number {
	return scaled(minus(scaled(angleOfShare(5), 2), angleOfShare(239)), 2)
}

// ln2Number adds 1 / (n 2^n).
func ln2Number() number {
	sum, power := numberOf(0), numberOf(0.5)
	for n := 1.0; !negligible(power, numberOf(1)); n++ {
		sum = plus(sum, by(power, numberOf(n)))
		power = scaled(power, -1)
	}
	return sum
}

// kept remembers a function's values: they take long.
func kept(of func(x number) number) func(v float64) number {
	known := map[float64]number{}
	return func(v float64) number {
		if known[v] == nil {
			known[v] = of(numberOf(v))
		}
		return known[v]
	}
}

// bounds are u and v of a range; infinite ones are big.Float's own.
type bounds struct{ u, v number }

func infinite(sign int) number { return fresh().SetInf(sign < 0) }

// wrong are intervals that may not be.
func wrong() []api.Ival {
	return []api.Ival{
		iv(nan, 1), iv(1, nan), iv(nan, nan), iv(inf, nan), iv(nan, -inf), iv(-inf, nan),
		iv(minus0, 1), iv(-1, minus0), iv(minus0, minus0), iv(minus0, 0), iv(0, minus0), iv(minus0, inf), iv(-inf, minus0),
		iv(2, 1), iv(1, -1), iv(up(1), 1), iv(greatest, -greatest), iv(least, 0),
		iv(inf, inf), iv(-inf, -inf), iv(inf, 1), iv(1, -inf), iv(inf, greatest), iv(-greatest, -inf), iv(inf, minus0),
	}
}

// between are all intervals with these ends.
func between(ends ...float64) []api.Ival {
	var out []api.Ival
	for _, lo := range ends {
		for _, hi := range ends {
			if lo <= hi && lo < inf && hi > -inf {
				out = append(out, iv(lo, hi))
			}
		}
	}
	return out
}

// withNegatives are some ends and their negatives.
func withNegatives(ends ...float64) []float64 {
	out := []float64{0}
	for _, v := range ends {
		out = append(out, v, -v)
	}
	return out
}

// chance draws finite floats: most of them up to some amount, evenly or down to very small ones, some of any size.
func chance(seed int64, upTo float64) func() float64 {
	r := rand.New(rand.NewSource(seed))
	return func() float64 {
		v := upTo * (2*r.Float64() - 1)
		switch r.Intn(4) {
		case 0:
			v = math.Ldexp(v, -r.Intn(64))
		case 1:
			v = math.Float64frombits(r.Uint64())
		}
		if v == 0 || math.IsNaN(v) || math.IsInf(v, 0) {
			return 1
		}
		return v
	}
}

// intervalsByChance are points, neighbours and others with drawn ends.
func intervalsByChance(count int, draw func() float64) []api.Ival {
	var out []api.Ival
	for n := range count {
		a := draw()
		b := []float64{a, up(a), draw()}[n%3]
		if math.IsInf(b, 0) {
			b = a
		}
		out = append(out, iv(min(a, b), max(a, b)))
	}
	return out
}
