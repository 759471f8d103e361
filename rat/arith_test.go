package rat_test

import (
	"math"
	"math/big"
	"testing"

	"orrery/api"
	"orrery/ival"
	"orrery/rat"
)

func operations() []operation {
	return []operation{
		{"Add", rat.Add, (*big.Rat).Add},
		{"Sub", rat.Sub, (*big.Rat).Sub},
		{"Mul", rat.Mul, (*big.Rat).Mul},
		{"Div", rat.Div, (*big.Rat).Quo},
	}
}

func checkPair(t *testing.T, a, b api.Rat) {
	t.Helper()
	for _, o := range operations() {
		check(t, answered(o.call(a, b)), wanted(o, a, b), o.name, a, b)
	}
	want := 0
	if mayBe(a) && mayBe(b) {
		want = exact(a).Cmp(exact(b))
	}
	if got := rat.Cmp(a, b); got != want {
		t.Errorf("Cmp(%v, %v) = %d, want %d", a, b, got, want)
	}
}

// TestPairs is P11.2 but for Pow, also where one, or both, may not be.
func TestPairs(t *testing.T) {
	given := append(edges(), wrong()...)
	for _, a := range given {
		for _, b := range given {
			checkPair(t, a, b)
		}
	}
}

func TestPairsByChance(t *testing.T) {
	draw := chance(3)
	for range 30000 {
		checkPair(t, draw(), draw())
	}
}

// TestSmallPairs goes through all quotients of small numbers.
func TestSmallPairs(t *testing.T) {
	var small []api.Rat
	for n := int64(-9); n <= 9; n++ {
		for d := int64(-1); d <= 9; d++ {
			small = append(small, q(n, d))
		}
	}
	for _, a := range small {
		for _, b := range small {
			checkPair(t, a, b)
		}
	}
}

// TestRoomOnTheWay has answers with room that are made of products with none.
func TestRoomOnTheWay(t *testing.T) {
	type call = func(a, b api.Rat) (api.Rat, api.Errno)
	for n, c := range []struct {
		call call
		a, b api.Rat
		want answer
	}{
		{rat.Add, q(top, 1), q(-top, 1), answer{q(0, 1), api.OK}},
		{rat.Add, q(1, top), q(-1, top), answer{q(0, 1), api.OK}},
		{rat.Add, q(top-1, top), q(1, top), answer{q(1, 1), api.OK}},
		{rat.Add, q(1, top), q(top-1, top), answer{q(1, 1), api.OK}},
		{rat.Add, q(top, top-1), q(-1, top-1), answer{q(1, 1), api.OK}},
		{rat.Sub, q(top, 1<<62), q(top-2, 1<<62), answer{q(1, 1<<61), api.OK}},
		{rat.Add, q(top, 1<<62), q(1, 1<<62), answer{q(2, 1), api.OK}},
		{rat.Add, q(top, 1<<62), q(-1, 1<<62), answer{q(1<<62-1, 1<<61), api.OK}},
		{rat.Add, q(top, 2), q(-1, 2), answer{q(1<<62-1, 1), api.OK}},
		{rat.Add, q(top, 2), q(1, 2), answer{q(1<<62, 1), api.OK}},
		{rat.Add, q(top, 2), q(top, 2), answer{q(top, 1), api.OK}},
		{rat.Add, q(-top, 2), q(-top, 2), answer{q(-top, 1), api.OK}},
		{rat.Sub, q(top, 2), q(-top, 2), answer{q(top, 1), api.OK}},
		{rat.Add, q(top, 3*7), q(top, 3*7), failed(api.ErrArg)}, // 7 is a divisor of 2^63 - 1
		{rat.Add, q(top-1, 1), q(1, 1), answer{q(top, 1), api.OK}},
		{rat.Add, q(top, 1), q(1, 1), failed(api.ErrOver)},
		{rat.Add, q(-top, 1), q(-1, 1), failed(api.ErrOver)}, // -2^63
		{rat.Sub, q(-top, 1), q(1, 1), failed(api.ErrOver)},
		{rat.Sub, q(-top+1, 1), q(1, 1), answer{q(-top, 1), api.OK}},
		{rat.Add, q(top, 1), q(top, 1), failed(api.ErrOver)},
		{rat.Add, q(1, 3037000499), q(1, 3037000500), answer{q(3037000499+3037000500, 3037000499*3037000500), api.OK}},
		{rat.Add, q(1, 3037000500), q(1, 3037000501), failed(api.ErrOver)},
		{rat.Add, q(1<<62, 3), q(1<<62, 3), failed(api.ErrOver)},
		{rat.Add, q(1<<62-1, 1), q(1<<62, 1), answer{q(top, 1), api.OK}},
		{rat.Add, q(1<<62, 1), q(1<<62, 1), failed(api.ErrOver)},
		{rat.Add, q(1, 1<<62), q(1, 1<<62), answer{q(1, 1<<61), api.OK}},
		{rat.Add, q(1, 1<<61*3), q(1, 1<<61), answer{q(1, 1<<59*3), api.OK}},
		{rat.Add, q(1, 1<<62), q(1, 3), failed(api.ErrOver)},
		{rat.Mul, q(top, top-1), q(top-1, top), answer{q(1, 1), api.OK}},
		{rat.Mul, q(-top, top-1), q(top-1, top), answer{q(-1, 1), api.OK}},
		{rat.Mul, q(top, 1), q(1, top), answer{q(1, 1), api.OK}},
		{rat.Mul, q(top, 2), q(2, 1), answer{q(top, 1), api.OK}},
		{rat.Mul, q(top/7, 1), q(7, 1), answer{q(top, 1), api.OK}},
		{rat.Mul, q(top/7, 1), q(-7, 1), answer{q(-top, 1), api.OK}},
		{rat.Mul, q(1<<62, 1), q(-2, 1), failed(api.ErrOver)}, // -2^63
		{rat.Mul, q(1<<62, 1), q(2, 1), failed(api.ErrOver)},
		{rat.Mul, q(1, 1<<62), q(1, 2), failed(api.ErrOver)},
		{rat.Mul, q(1, top/7), q(1, 7), answer{q(1, top), api.OK}},
		{rat.Mul, q(1<<32, 1), q(1<<31, 1), failed(api.ErrOver)},
		{rat.Mul, q(1<<32, 1), q(1<<32, 1), failed(api.ErrOver)}, // 2^64: nothing in the lower word
		{rat.Mul, q(1<<62, 1), q(1<<62, 1), failed(api.ErrOver)},
		{rat.Mul, q(1, 1<<32), q(1, 1<<32), failed(api.ErrOver)},
		{rat.Mul, q(0, 1), q(1, top), answer{q(0, 1), api.OK}},
		{rat.Mul, q(-1, top), q(0, 1), answer{q(0, 1), api.OK}},
		{rat.Div, q(top, top-1), q(top, top-1), answer{q(1, 1), api.OK}},
		{rat.Div, q(top, top-1), q(-top, top-1), answer{q(-1, 1), api.OK}},
		{rat.Div, q(1, 1), q(-top, 1), answer{q(-1, top), api.OK}},
		{rat.Div, q(-1, 1), q(1, top), answer{q(-top, 1), api.OK}},
		{rat.Div, q(0, 1), q(-1, top), answer{q(0, 1), api.OK}},
		{rat.Div, q(1<<62, 1), q(1, 2), failed(api.ErrOver)},
		{rat.Div, q(1, 1<<62), q(2, 1), failed(api.ErrOver)},
		{rat.Div, q(top, 1), q(1, top), failed(api.ErrOver)},
	} {
		check(t, answered(c.call(c.a, c.b)), c.want, "call ", n, c.a, c.b)
	}
}

// TestWhichErrorComesFirst of several that apply.
func TestWhichErrorComesFirst(t *testing.T) {
	for _, a := range wrong() {
		check(t, answered(rat.Div(a, q(0, 1))), failed(api.ErrArg), "Div", a)
		check(t, answered(rat.Div(q(1, 1), a)), failed(api.ErrArg), "Div by", a)
		check(t, answered(rat.Pow(a, 65)), failed(api.ErrArg), "Pow 65", a)
		check(t, answered(rat.Pow(a, -1)), failed(api.ErrArg), "Pow -1", a)
		check(t, answered(rat.Pow(a, 0)), failed(api.ErrArg), "Pow 0", a)
		check(t, answered(rat.Mul(a, q(0, 1))), failed(api.ErrArg), "Mul by 0", a)
		check(t, answered(rat.Mul(q(0, 1), a)), failed(api.ErrArg), "0 Mul", a)
	}
	check(t, answered(rat.Div(q(0, 1), q(0, 1))), failed(api.ErrPivot), "Div 0 by 0")
	check(t, answered(rat.Div(q(top, 1), q(0, 1))), failed(api.ErrPivot), "Div by 0")
	check(t, answered(rat.Pow(q(0, 1), -65)), failed(api.ErrArg), "Pow -65 of 0")
	check(t, answered(rat.Pow(q(0, 1), -64)), failed(api.ErrPivot), "Pow -64 of 0")
	check(t, answered(rat.Pow(q(top, 1), 65)), failed(api.ErrArg), "Pow 65")
}

// TestPow is P11.2's Pow.
func TestPow(t *testing.T) {
	given := append(edges(), wrong()...)
	for n := int64(2); n <= 40; n++ {
		given = append(given, q(n, 1), q(-n, 1), q(1, n), q(n, n+1), q(-n, n-1))
	}
	powers := []int{math.MinInt, math.MinInt + 1, -1 << 32, 1 << 32, 1<<32 + 2, math.MaxInt}
	for n := -70; n <= 70; n++ {
		powers = append(powers, n)
	}
	for _, a := range given {
		for _, n := range powers {
			check(t, answered(rat.Pow(a, n)), wantedPower(a, n), "Pow", a, n)
		}
	}
}

func wantedPower(a api.Rat, n int) answer {
	switch {
	case !mayBe(a) || n < -64 || n > 64:
		return failed(api.ErrArg)
	case a.N == 0 && n < 0:
		return failed(api.ErrPivot)
	}
	return roomFor(powerOf(exact(a), n))
}

func TestPowByHand(t *testing.T) {
	for _, c := range []struct {
		a    api.Rat
		n    int
		want answer
	}{
		{q(0, 1), 0, answer{q(1, 1), api.OK}},
		{q(0, 1), 1, answer{q(0, 1), api.OK}},
		{q(0, 1), 64, answer{q(0, 1), api.OK}},
		{q(0, 1), 65, failed(api.ErrArg)},
		{q(0, 1), -1, failed(api.ErrPivot)},
		{q(1, 1), 64, answer{q(1, 1), api.OK}},
		{q(1, 1), -64, answer{q(1, 1), api.OK}},
		{q(1, 1), 65, failed(api.ErrArg)},
		{q(1, 1), -65, failed(api.ErrArg)},
		{q(-1, 1), 64, answer{q(1, 1), api.OK}},
		{q(-1, 1), 63, answer{q(-1, 1), api.OK}},
		{q(-1, 1), -63, answer{q(-1, 1), api.OK}},
		{q(-1, 1), -64, answer{q(1, 1), api.OK}},
		{q(top, top-1), 0, answer{q(1, 1), api.OK}},
		{q(-top, 1), 1, answer{q(-top, 1), api.OK}},
		{q(-top, 1), -1, answer{q(-1, top), api.OK}},
		{q(-3, top-1), -1, failed(api.ErrArg)}, // 3 is a divisor of both
		{q(-5, top-1), -1, answer{q(-(top - 1), 5), api.OK}},
		{q(2, 1), 62, answer{q(1<<62, 1), api.OK}},
		{q(2, 1), 63, failed(api.ErrOver)},
		{q(-2, 1), 62, answer{q(1<<62, 1), api.OK}},
		{q(-2, 1), 61, answer{q(-(1 << 61), 1), api.OK}},
		{q(-2, 1), 63, failed(api.ErrOver)}, // -2^63
		{q(2, 1), 64, failed(api.ErrOver)},  // 2^64: nothing in the lower word
		{q(1, 2), -62, answer{q(1<<62, 1), api.OK}},
		{q(-1, 2), -63, failed(api.ErrOver)},
		{q(1, 2), 62, answer{q(1, 1<<62), api.OK}},
		{q(1, 2), 63, failed(api.ErrOver)},
		{q(1, 2), 64, failed(api.ErrOver)},
		{q(3, 1), 39, answer{q(4052555153018976267, 1), api.OK}},
		{q(3, 1), 40, failed(api.ErrOver)},
		{q(3, 2), -39, answer{q(1<<39, 4052555153018976267), api.OK}},
		{q(-3, 2), -39, answer{q(-(1 << 39), 4052555153018976267), api.OK}},
		{q(3037000499, 1), 2, answer{q(3037000499*3037000499, 1), api.OK}},
		{q(3037000500, 1), 2, failed(api.ErrOver)},
		{q(1<<32, 1), 2, failed(api.ErrOver)},
		{q(1<<32, 1), 4, failed(api.ErrOver)},
	} {
		check(t, answered(rat.Pow(c.a, c.n)), c.want, "Pow", c.a, c.n)
	}
}

// TestCmpByHand has products beyond 64 bits, which differ in their last bits only.
func TestCmpByHand(t *testing.T) {
	for _, c := range []struct {
		a, b api.Rat
		want int
	}{
		{q(1, 2), q(1, 3), 1},
		{q(-1, 2), q(1, 3), -1},
		{q(-1, 2), q(-1, 3), -1},
		{q(0, 1), q(0, 1), 0},
		{q(0, 1), q(1, top), -1},
		{q(-1, top), q(0, 1), -1},
		{q(top, top-1), q(top-1, top-2), -1},
		{q(top-1, top), q(top-2, top-1), 1},
		{q(-top, top-1), q(-(top - 1), top-2), 1},
		{q(top, 1), q(-top, 1), 1},
		{q(-top, 1), q(top, 1), -1},
		{q(top, 1), q(1, top), 1},
		{q(top, 1), q(top, 1), 0},
		{q(-top, top-1), q(-top, top-1), 0},
		{q(1<<32, 1), q(1, 1<<32), 1}, // products 2^64 and 1
		{q(1<<32, 1<<32-1), q(1<<32+1, 1<<32), 1},
		{q(math.MinInt64, 1), q(1, 1), 0},
		{q(1, 1), q(2, 2), 0},
		{q(1, 0), q(-1, 0), 0},
		{q(5, -1), q(5, 1), 0},
	} {
		if got := rat.Cmp(c.a, c.b); got != c.want {
			t.Errorf("Cmp(%v, %v) = %d, want %d", c.a, c.b, got, c.want)
		}
		if got := rat.Cmp(c.b, c.a); got != -c.want {
			t.Errorf("Cmp(%v, %v) = %d, want %d", c.b, c.a, got, -c.want)
		}
	}
}

// checkFollows is P11.5.
func checkFollows(t *testing.T, a, b api.Rat) {
	t.Helper()
	same := answer{a, api.OK}
	if s, e := rat.Add(a, b); e == api.OK {
		check(t, answered(rat.Sub(s, b)), same, "added, taken off ", a, b)
		if !ival.Inside(rat.Hold(s), ival.Add(rat.Hold(a), rat.Hold(b))) {
			t.Errorf("Hold(%v + %v) = %g, not within the sum of intervals", a, b, rat.Hold(s))
		}
	}
	if d, e := rat.Sub(a, b); e == api.OK {
		check(t, answered(rat.Add(d, b)), same, "taken off, added ", a, b)
	}
	if b.N == 0 {
		return
	}
	if p, e := rat.Mul(a, b); e == api.OK {
		check(t, answered(rat.Div(p, b)), same, "multiplied, divided ", a, b)
	}
	if d, e := rat.Div(a, b); e == api.OK {
		check(t, answered(rat.Mul(d, b)), same, "divided, multiplied ", a, b)
	}
}

func TestWhatFollows(t *testing.T) {
	for _, a := range edges() {
		for _, b := range edges() {
			checkFollows(t, a, b)
		}
	}
	draw := chance(4)
	for range 20000 {
		checkFollows(t, draw(), draw())
	}
}
