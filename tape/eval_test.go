package tape_test

import (
	"math"
	"slices"
	"testing"

	"orrery/api"
	"orrery/ival"
	"orrery/tape"
)

// askEval holds what Eval tells of a tape with one of Outs against a value, or an error.
func askEval(t *testing.T, s api.Tape, x box, want api.Ival, e api.Errno) {
	t.Helper()
	got, f := tape.Eval(s, x)
	switch {
	case f != e:
		t.Errorf("Eval(%v, %v) = %v, %d, want the error %d", s, x, got, f, e)
	case e != api.OK && got != nil:
		t.Errorf("Eval(%v, %v) = %v beside the error %d", s, x, got, e)
	case e == api.OK && !slices.Equal(got, box{want}):
		t.Errorf("Eval(%v, %v) = %v, want %v", s, x, got, want)
	}
}

// TestValues is P5.2: the value of each kind, by hand.
func TestValues(t *testing.T) {
	x0, x1 := variable(0), variable(1)
	for _, c := range []struct {
		o    op
		a, b api.Ival
		want api.Ival
	}{
		{lit(2, 3), iv(0, 1), iv(0, 1), iv(2, 3)},
		{x0, iv(1, 2), iv(3, 5), iv(1, 2)},
		{x1, iv(1, 2), iv(3, 5), iv(3, 5)},
		{both(api.TAdd, 0, 1), iv(1, 2), iv(3, 5), iv(4, 7)},
		{both(api.TAdd, 1, 1), iv(1, 2), iv(3, 5), iv(6, 10)},
		{both(api.TSub, 0, 1), iv(1, 2), iv(3, 5), iv(-4, -1)},
		{both(api.TSub, 1, 0), iv(1, 2), iv(3, 5), iv(1, 4)},
		{both(api.TSub, 0, 0), iv(1, 2), iv(3, 5), iv(-1, 1)}, // nobody asks whether both are one
		{both(api.TMul, 0, 1), iv(-1, 2), iv(3, 4), iv(-4, 8)},
		{both(api.TMul, 0, 0), iv(-1, 2), iv(3, 4), iv(-2, 4)}, // no square
		{both(api.TDiv, 0, 1), iv(1, 2), iv(2, 4), iv(0.25, 1)},
		{both(api.TDiv, 1, 0), iv(1, 2), iv(2, 4), iv(1, 4)},
		{both(api.TDiv, 0, 1), iv(1, 2), iv(-4, -2), iv(-1, -0.25)},
		{of(api.TNeg, 0), iv(1, 2), iv(3, 5), iv(-2, -1)},
		{of(api.TNeg, 1), iv(1, 2), point(0), point(0)},
		{pow(0, 2), iv(-2, 1), iv(3, 5), iv(0, 4)},
		{pow(0, 3), iv(-2, 1), iv(3, 5), iv(-8, 1)},
		{pow(0, 0), iv(-2, 1), iv(3, 5), iv(1, 1)},
		{pow(0, 1), iv(-2, 1), iv(3, 5), iv(-2, 1)},
		{pow(1, -1), iv(-2, 1), iv(2, 4), iv(0.25, 0.5)},
		{pow(0, -2), iv(-4, -2), iv(2, 4), iv(0x1p-4, 0x1p-2)},
		{pow(0, 64), iv(1, 2), iv(2, 4), iv(1, 0x1p64)},
		{pow(0, -64), iv(1, 2), iv(2, 4), iv(0x1p-64, 1)},
		{of(api.TSqrt, 0), iv(4, 9), iv(3, 5), iv(2, 3)},
		{of(api.TSqrt, 0), iv(0, 4), iv(3, 5), iv(0, 2)},
		{of(api.TSqrt, 1), iv(4, 9), point(0), point(0)},
	} {
		askEval(t, lastOf(2, x0, x1, c.o), box{c.a, c.b}, c.want, api.OK)
	}
}

// TestFunctions is P5.2: each is its own function, whose values at floats math tells nearly.
func TestFunctions(t *testing.T) {
	functions := floatField()
	for kind := api.TSqrt; kind <= api.TAtan; kind++ {
		for _, a := range []float64{0.125, 0.5, 1, 2, 3.5, 20} {
			s := lastOf(1, variable(0), of(kind, 0))
			v, e := tape.Eval(s, box{point(a)})
			if e != api.OK {
				t.Fatalf("Eval(%v, %g): %d", s, a, e)
			}
			near := functions.function(kind, a)
			if room := 1e-14 * max(1, math.Abs(near)); v[0].Lo > near+room || v[0].Hi < near-room || v[0].Hi-v[0].Lo > 100*room {
				t.Errorf("kind %d of %g: %v, want nearly %g", kind, a, v[0], near)
			}
		}
	}
}

// TestOutside is P5.2: where an operation has no value; where it is wide besides, ErrDomain.
func TestOutside(t *testing.T) {
	for _, a := range (box{iv(0, 1), iv(-1, 0), iv(-1, 1), point(0), iv(0, least), iv(-greatest, greatest), iv(-least, least)}) {
		askEval(t, lastOf(1, lit(1, 1), variable(0), both(api.TDiv, 0, 1)), box{a}, none, api.ErrDomain)
		askEval(t, lastOf(1, lit(0, 0), variable(0), both(api.TDiv, 0, 1)), box{a}, none, api.ErrDomain)
		askEval(t, lastOf(1, variable(0), both(api.TDiv, 0, 0)), box{a}, none, api.ErrDomain)
		for _, n := range []int{-1, -2, -3, -64} {
			askEval(t, lastOf(1, variable(0), pow(0, n)), box{a}, none, api.ErrDomain)
		}
	}
	for _, a := range (box{iv(-1, 1), iv(-least, 4), iv(-2, -1), iv(-least, -least), iv(-greatest, 0), iv(-1, 0)}) {
		askEval(t, lastOf(1, variable(0), of(api.TSqrt, 0)), box{a}, none, api.ErrDomain)
		askEval(t, lastOf(1, variable(0), of(api.TLog, 0)), box{a}, none, api.ErrDomain)
	}
	for _, a := range (box{iv(0, 1), point(0), iv(0, greatest), iv(0, least)}) {
		askEval(t, lastOf(1, variable(0), of(api.TLog, 0)), box{a}, none, api.ErrDomain)
		askEval(t, lastOf(1, variable(0), of(api.TSqrt, 0)), box{a}, ival.Sqrt(a), api.OK)
	}
	askEval(t, lastOf(1, lit(0, 1), variable(0), both(api.TDiv, 0, 1)), box{iv(1, 2)}, iv(0, 1), api.OK) // what is divided may hold 0
	askEval(t, lastOf(1, variable(0), pow(0, 0)), box{iv(-1, 1)}, iv(1, 1), api.OK)
	askEval(t, lastOf(1, variable(0), pow(0, 2)), box{point(0)}, point(0), api.OK)
	if v, e := tape.Eval(lastOf(1, variable(0), of(api.TLog, 0)), box{iv(least, 1)}); e != api.OK || v[0].Lo > -744 {
		t.Error("Log from the least float on:", v, e)
	}
}

// TestWide is P5.2: values without end.
func TestWide(t *testing.T) {
	big := point(1e300)
	for _, c := range []struct {
		s api.Tape
		x box
	}{
		{lastOf(0, op{Kind: api.TConst, Lit: all}), nil},
		{lastOf(0, op{Kind: api.TConst, Lit: iv(0, inf)}), nil},
		{lastOf(0, op{Kind: api.TConst, Lit: iv(-inf, 0)}), nil},
		{lastOf(1, variable(0)), box{all}},
		{lastOf(1, variable(0)), box{iv(1, inf)}},
		{lastOf(1, variable(0)), box{iv(-inf, 1)}},
		{lastOf(1, variable(0), both(api.TAdd, 0, 0)), box{point(greatest)}},
		{lastOf(1, variable(0), both(api.TAdd, 0, 0)), box{point(-greatest)}},
		{lastOf(1, variable(0), both(api.TSub, 0, 0)), box{iv(-greatest, greatest)}},
		{lastOf(1, variable(0), both(api.TMul, 0, 0)), box{big}},
		{lastOf(1, variable(0), lit(1e-300, 1), both(api.TDiv, 0, 1)), box{big}},
		{lastOf(1, variable(0), lit(least, 1), both(api.TDiv, 0, 1)), box{point(1)}},
		{lastOf(1, variable(0), pow(0, 2)), box{big}},
		{lastOf(1, variable(0), pow(0, 64)), box{point(1e10)}},
		{lastOf(1, variable(0), pow(0, -2)), box{iv(0x1p-1000, 1)}}, // its square is rounded to what holds 0
		{lastOf(1, variable(0), of(api.TExp, 0)), box{iv(0, 1000)}},
		{lastOf(1, variable(0), of(api.TExp, 0)), box{point(greatest)}},
	} {
		askEval(t, c.s, c.x, none, api.ErrWide)
	}
	askEval(t, lastOf(1, variable(0), pow(0, -1)), box{iv(0x1p-1000, 1)}, iv(1, 0x1p1000), api.OK)
	askEval(t, lastOf(1, variable(0)), box{iv(-greatest, greatest)}, iv(-greatest, greatest), api.OK)
	askEval(t, lastOf(1, variable(0), of(api.TNeg, 0)), box{iv(-greatest, greatest)}, iv(-greatest, greatest), api.OK)
	askEval(t, lastOf(2, variable(1)), box{all, iv(1, 2)}, iv(1, 2), api.OK) // what no operation takes may be without end
}

// TestFirstError is P5.2: that of the first operation that has one, whether somebody needs it or not.
func TestFirstError(t *testing.T) {
	x := box{iv(-1, 1)}
	wide := []op{variable(0), {Kind: api.TConst, Lit: all}, of(api.TSqrt, 0)}
	askEval(t, lastOf(1, wide...), x, none, api.ErrWide)
	outside := []op{variable(0), of(api.TSqrt, 0), {Kind: api.TConst, Lit: all}}
	askEval(t, lastOf(1, outside...), x, none, api.ErrDomain)
	for _, ops := range [][]op{wide, outside} {
		for last := range 3 {
			_, want := tape.Eval(lastOf(1, ops...), x)
			askEval(t, api.Tape{Vars: 1, Ops: ops, Outs: []int{last}}, x, none, want)
		}
		if v, e := tape.Eval(api.Tape{Vars: 1, Ops: ops}, x); e == api.OK || v != nil {
			t.Error("without Outs:", v, e)
		}
	}
}

// TestWrongVariables is P5.2, and what Grad has of it.
func TestWrongVariables(t *testing.T) {
	two := lastOf(2, variable(0), variable(1), both(api.TAdd, 0, 1))
	idle := api.Tape{Vars: 2} // nobody takes them
	failing := lastOf(2, variable(0), op{Kind: api.TConst, Lit: all}, of(api.TSqrt, 0))
	one := point(1)
	xs := []box{nil, {}, {one}, {one, one, one}, slices.Repeat(box{one}, 64), slices.Repeat(box{one}, 100000), {none, one}, {one, none}, {none, none}}
	for _, wrong := range wrongIntervals() {
		xs = append(xs, box{wrong, one}, box{one, wrong}, box{wrong, wrong})
	}
	ask := func(s api.Tape, x box, want api.Errno) {
		t.Helper()
		if v, e := tape.Eval(s, x); e != want || e != api.OK && v != nil {
			t.Errorf("Eval(%v, %v) = %v, %d, want %d", s, x, v, e, want)
		}
		if v, d, e := tape.Grad(s, x); e != want || e != api.OK && (v != nil || d != nil) {
			t.Errorf("Grad(%v, %v) = %v, %v, %d, want %d", s, x, v, d, e, want)
		}
	}
	for _, x := range xs {
		ask(two, x, api.ErrArg)
		ask(idle, x, api.ErrArg)
		ask(failing, x, api.ErrArg)
	}
	ask(two, box{one, iv(-1, 1)}, api.OK)
	ask(idle, box{all, iv(-inf, 1)}, api.OK)
	ask(api.Tape{}, nil, api.OK)
	ask(api.Tape{}, box{}, api.OK)
	ask(api.Tape{}, box{one}, api.ErrArg)
	many := api.Tape{Vars: 64}
	ask(many, slices.Repeat(box{one}, 64), api.OK)
	ask(many, slices.Repeat(box{one}, 63), api.ErrArg)
	ask(many, slices.Repeat(box{one}, 65), api.ErrArg)
	ask(many, append(slices.Repeat(box{one}, 63), none), api.ErrArg)
}

// TestValuesOfOuts is P5.2: in the order of Outs, as often as they are there.
func TestValuesOfOuts(t *testing.T) {
	s := api.Tape{Vars: 1, Ops: []op{variable(0), lit(5, 5), both(api.TMul, 0, 1)}, Outs: []int{2, 0, 2, 1, 0}}
	want := box{iv(5, 10), iv(1, 2), iv(5, 10), iv(5, 5), iv(1, 2)}
	if v, e := tape.Eval(s, box{iv(1, 2)}); e != api.OK || !slices.Equal(v, want) {
		t.Error(v, e)
	}
	s.Outs = nil
	if v, e := tape.Eval(s, box{iv(1, 2)}); e != api.OK || len(v) != 0 {
		t.Error(v, e)
	}
}

// TestEvalByWords is P5.2 of tapes by chance.
func TestEvalByWords(t *testing.T) {
	r := chance(53)
	seen := map[api.Errno]int{}
	for n := range 20000 {
		vars := n % 5
		s := someTape(r, kindsUpTo(api.TAtan), vars, vars+1+n%9, n%4, []int{2, 64}[n%2])
		x := someBox(r, vars)
		v, e := tape.Eval(s, x)
		want, f := wordsEval(s, x)
		if e != f || !slices.Equal(v, want) {
			t.Errorf("Eval(%v, %v) = %v, %d, want %v, %d", s, x, v, e, want, f)
		}
		for _, y := range v {
			if !ival.Right(y) {
				t.Errorf("Eval(%v, %v) tells %v", s, x, y)
			}
		}
		seen[e]++
	}
	if seen[api.OK] < 1000 || seen[api.ErrDomain] < 1000 || seen[api.ErrWide] < 50 || len(seen) != 3 {
		t.Error("what was told:", seen)
	}
}
