package rat_test

// What the chapter says in words, gone through in the library's exact numbers.

import (
	"math"
	"math/big"
	"math/rand"
	"testing"

	"orrery/api"
)

const top = math.MaxInt64 // 2^63 - 1

func q(n, d int64) api.Rat { return api.Rat{N: n, D: d} }

// mayBe goes by the words of when a number may be.
func mayBe(a api.Rat) bool {
	if a.D < 1 || a.N == math.MinInt64 {
		return false
	}
	n := new(big.Int).Abs(big.NewInt(a.N))
	return new(big.Int).GCD(nil, nil, n, big.NewInt(a.D)).Cmp(big.NewInt(1)) == 0
}

func exact(a api.Rat) *big.Rat { return big.NewRat(a.N, a.D) }

// answer is a number and an error, as calls answer them.
type answer struct {
	a api.Rat
	e api.Errno
}

func answered(a api.Rat, e api.Errno) answer { return answer{a, e} }

func failed(e api.Errno) answer { return answer{e: e} }

// roomFor is the answer of an exact number: it, or ErrOver.
func roomFor(x *big.Rat) answer {
	n, d := x.Num(), x.Denom()
	if !n.IsInt64() || !d.IsInt64() || n.Int64() == math.MinInt64 {
		return failed(api.ErrOver)
	}
	return answer{q(n.Int64(), d.Int64()), api.OK}
}

// powerOf is x to the power n; x is not 0, if n is below 0.
func powerOf(x *big.Rat, n int) *big.Rat {
	if n < 0 {
		return powerOf(new(big.Rat).Inv(x), -n)
	}
	often := big.NewInt(int64(n))
	return new(big.Rat).SetFrac(new(big.Int).Exp(x.Num(), often, nil), new(big.Int).Exp(x.Denom(), often, nil))
}

// operation is a call of two numbers, and what it is exactly.
type operation struct {
	name  string
	call  func(a, b api.Rat) (api.Rat, api.Errno)
	exact func(z, x, y *big.Rat) *big.Rat
}

// wanted is what the chapter asks of an operation.
func wanted(o operation, a, b api.Rat) answer {
	switch {
	case !mayBe(a) || !mayBe(b):
		return failed(api.ErrArg)
	case o.name == "Div" && b.N == 0:
		return failed(api.ErrPivot)
	}
	return roomFor(o.exact(new(big.Rat), exact(a), exact(b)))
}

// wholes are whole numbers near the edges of 2, of 32, of 63 bits, and some with many divisors, or none.
func wholes() []int64 {
	out := []int64{0, math.MinInt64}
	for _, v := range []int64{
		1, 2, 3, 4, 5, 6, 7, 10, 12, 30,
		1<<31 - 1, 1 << 31, 1<<32 - 1, 1 << 32, 1<<32 + 1, 3037000499, 3037000500, // the root of 2^63, downwards and upwards
		2305843009213693951,                                                                          // 2^61 - 1, which is prime
		1 << 53, 1<<53 + 1, 1<<54 - 1, 1000000000000000000, 4052555153018976267, 7450580596923828125, // 10^18, 3^39, 5^27
		1 << 61, 1<<62 - 1, 1 << 62, 1<<62 + 1, 614889782588491410, // the last one is all primes up to 47
		top/3 - 1, top / 3, top / 7, top - 24, top - 2, top - 1, top, // 2^63 - 25 is prime
	} {
		out = append(out, v, -v)
	}
	return out
}

// numbers are quotients of wholes that may be.
func numbers() []api.Rat {
	var out []api.Rat
	for _, n := range wholes() {
		for _, d := range wholes() {
			if a := q(n, d); mayBe(a) {
				out = append(out, a)
			}
		}
	}
	return out
}

// edges are fewer: as many as can be held against each other in pairs.
func edges() []api.Rat {
	out := []api.Rat{q(0, 1)}
	for _, a := range []api.Rat{
		q(1, 1), q(2, 1), q(3, 1), q(1, 2), q(1, 3), q(2, 3), q(5, 6), q(3, 4), q(7, 10), q(1, 12),
		q(1<<31, 1), q(1<<32, 1), q(1<<32+1, 1), q(1, 1<<32), q(1<<32-1, 1<<32+1), q(3037000499, 1), q(3037000500, 1), q(3037000500, 3037000499),
		q(1<<61, 1), q(1<<62, 1), q(1<<62-1, 1), q(1<<62+1, 1), q(1, 1<<62), q(1<<62-1, 1<<62), q(1<<62+1, 1<<62), q(3, 1<<62), q(1<<62, 3),
		q(top, 1), q(top-1, 1), q(1, top), q(1, top-1), q(top, top-1), q(top-1, top), q(top-2, top), q(top, 2), q(2, top), q(top, 1<<62), q(1<<62, top),
		q(top/7, 1), q(7, top/7-1), q(top-24, 1), q(1, top-24), q(top-24, 2305843009213693951), q(2305843009213693951, top-24),
		q(4052555153018976267, 7450580596923828125), q(1000000000000000000, 4052555153018976267), q(1, 614889782588491410), q(1, 614889782588491410/47),
	} {
		out = append(out, a, q(-a.N, a.D))
	}
	return out
}

// wrong are numbers that may not be.
func wrong() []api.Rat {
	return []api.Rat{
		{}, q(1, 0), q(-1, 0), q(top, 0), q(math.MinInt64, 0),
		q(1, -1), q(0, -1), q(-1, -1), q(5, -3), q(1, -top), q(1, math.MinInt64), q(0, math.MinInt64), q(math.MinInt64, math.MinInt64),
		q(math.MinInt64, 1), q(math.MinInt64, 3), q(math.MinInt64, top), q(math.MinInt64, 2),
		q(0, 2), q(0, 3), q(0, top), q(2, 2), q(-2, 2), q(6, 4), q(-6, 4), q(3, 9), q(top, top), q(-top, top), q(top, 7), q(7, top), q(1<<62, 2), q(2, 1<<62), q(top-1, 2),
	}
}

// chance draws numbers that may be, of all lengths: wholes, small ones, and those whose divisors are alike.
func chance(seed int64) func() api.Rat {
	r := rand.New(rand.NewSource(seed))
	whole := func() int64 {
		n := int64(1)
		switch r.Intn(3) {
		case 0: // many divisors
			for range r.Intn(40) {
				if p := []int64{2, 2, 3, 5, 7}[r.Intn(5)]; n <= top/p {
					n *= p
				}
			}
		default:
			n = int64(r.Uint64()>>1>>r.Intn(63)) | 1<<r.Intn(2)
		}
		return n
	}
	return func() api.Rat {
		n, d := whole(), int64(1)
		if r.Intn(4) > 0 {
			d = whole()
		}
		if r.Intn(2) == 0 {
			n = -n
		}
		x := big.NewRat(n, d)
		return q(x.Num().Int64(), x.Denom().Int64())
	}
}

// check holds an answer against what is asked for.
func check(t *testing.T, got, want answer, call string, args ...any) {
	t.Helper()
	if got != want {
		t.Errorf("%s%v: %v, want %v", call, args, got, want)
	}
}

// TestDrawnMayBe keeps the lists above from missing what they are for.
func TestDrawnMayBe(t *testing.T) {
	draw := chance(1)
	for range 2000 {
		if a := draw(); !mayBe(a) {
			t.Errorf("%v may not be", a)
		}
	}
	for _, a := range edges() {
		if !mayBe(a) {
			t.Errorf("%v may not be", a)
		}
	}
	for _, a := range wrong() {
		if mayBe(a) {
			t.Errorf("%v may be", a)
		}
	}
}
