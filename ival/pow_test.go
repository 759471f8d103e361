package ival_test

import (
	"math"
	"testing"

	"orrery/api"
	"orrery/ival"
)

// powerByWords is v, and then n - 1 times that times v, each rounded; an infinite one's is infinite.
func powerByWords(v float64, n, dir int) float64 {
	p := v
	for range n - 1 {
		if math.IsInf(p, 1) && v != 0 {
			return inf
		}
		p = roundedTo(product(numberOf(p), numberOf(v)), dir)
	}
	return p
}

func powByWords(x api.Ival, n int) api.Ival {
	if n%2 == 0 {
		return iv(powerByWords(ival.Mig(x), n, -1), powerByWords(ival.Mag(x), n, 1))
	}
	out := iv(powerByWords(math.Abs(x.Lo), n, -1), powerByWords(math.Abs(x.Hi), n, 1))
	if x.Lo < 0 {
		out.Lo = 0 - powerByWords(-x.Lo, n, 1)
	}
	if x.Hi < 0 {
		out.Hi = 0 - powerByWords(-x.Hi, n, -1)
	}
	return out
}

func powerInputs() []api.Ival {
	draw := chance(20)
	xs := between(-inf, -greatest, -2, -1-0x1p-52, -1/3.0, -0x1p-17, -least, 0, least, 0x1p-1022, 1/3.0, 1-0x1p-53, 1, 1.1, 3, 0x1p16, greatest, inf)
	for range 40 {
		xs = append(xs, draw())
	}
	return xs
}

func TestPow(t *testing.T) {
	for _, x := range powerInputs() {
		for n := 1; n <= api.MaxPower; n++ {
			want := none
			if x != none {
				want = powByWords(x, n)
			}
			if got := ival.Pow(x, n); !sameIval(got, want) {
				t.Errorf("Pow(%g, %d) = %g, want %g", x, n, got, want)
			}
			if got, inverse := ival.Pow(x, -n), ival.Div(iv(1, 1), want); !sameIval(got, inverse) {
				t.Errorf("Pow(%g, %d) = %g, want %g", x, -n, got, inverse)
			}
		}
	}
}

func TestPowOfNoSuchNumber(t *testing.T) {
	for _, x := range powerInputs() {
		whole, onePoint := all, iv(1, 1)
		if x == none {
			whole, onePoint = none, none
		}
		if got := ival.Pow(x, 0); !sameIval(got, onePoint) {
			t.Errorf("Pow(%g, 0) = %g", x, got)
		}
		for _, n := range []int{65, -65, 66, 128, -128, 1 << 32, -1 << 32, 1<<32 + 1, math.MaxInt, math.MinInt, math.MinInt + 1} {
			if got := ival.Pow(x, n); !sameIval(got, whole) {
				t.Errorf("Pow(%g, %d) = %g", x, n, got)
			}
		}
	}
}

func TestPowByHand(t *testing.T) {
	for _, c := range []struct {
		x    api.Ival
		n    int
		want api.Ival
	}{
		{iv(-2, 1), 3, iv(-8, 1)},
		{iv(-2, 1), 2, iv(0, 4)},
		{iv(-2, 1), 1, iv(-2, 1)},
		{iv(-2, -1), 2, iv(1, 4)},
		{iv(2, 2), 64, iv(0x1p64, 0x1p64)},
		{iv(2, 2), -64, iv(0x1p-64, 0x1p-64)},
		{iv(-2, 1), -1, all},
		{iv(0, 2), -1, iv(0.5, inf)},
		{iv(-2, 0), -1, iv(-inf, -0.5)},
		{iv(-2, 2), -2, iv(0.25, inf)},
		{iv(0, 0), -3, none},
		{iv(0, 0), 5, iv(0, 0)},
		{iv(0, 0), 0, iv(1, 1)},
		{all, 2, iv(0, inf)},
		{all, 3, all},
		{all, -2, iv(0, inf)},
		{all, -3, all},
		{iv(2, inf), -2, iv(0, 0.25)},
		{iv(-inf, -2), 3, iv(-inf, -8)},
		{iv(-inf, -2), -3, iv(-0.125, 0)},
		{iv(-least, -least), 3, iv(-least, 0)},
		{iv(least, least), 63, iv(0, least)},
		{iv(greatest, greatest), 2, iv(greatest, inf)},
		{iv(-greatest, -greatest), 3, iv(-inf, -greatest)},
		{iv(greatest, greatest), -2, iv(0, 0x1p-1024+least)},
		{none, 0, none},
		{none, 3, none},
		{none, -3, none},
		{none, 65, none},
	} {
		if got := ival.Pow(c.x, c.n); !sameIval(got, c.want) {
			t.Errorf("Pow(%g, %d) = %g, want %g", c.x, c.n, got, c.want)
		}
	}
}

// TestPowersAreHeld: rounding one by one goes outwards of the exact power.
func TestPowersAreHeld(t *testing.T) {
	for _, x := range powerInputs() {
		for _, v := range floatsIn(x) {
			exact := numberOf(v).SetPrec(64 * 60)
			for n := 2; n <= api.MaxPower; n++ {
				exact.Mul(exact, numberOf(v))
				made := ival.Pow(x, n)
				if !holdsRounded(made, roundedTo(exact, -1)) || !holdsRounded(made, roundedTo(exact, 1)) {
					t.Errorf("Pow(%g, %d) = %g: without that of %g", x, n, made, v)
				}
			}
		}
	}
}
