package tape_test

import (
	"math"
	"slices"
	"testing"

	"orrery/api"
	"orrery/elem"
	"orrery/ival"
	"orrery/tape"
)

// askGrad holds what Grad tells of a tape with one of Outs against its slopes, or an error.
func askGrad(t *testing.T, s api.Tape, x, want box, e api.Errno) {
	t.Helper()
	v, d, f := tape.Grad(s, x)
	switch {
	case f != e:
		t.Errorf("Grad(%v, %v) = %v, %v, %d, want the error %d", s, x, v, d, f, e)
	case e != api.OK && (v != nil || d != nil):
		t.Errorf("Grad(%v, %v) = %v, %v beside the error %d", s, x, v, d, e)
	case e == api.OK && !sameRows(d, []box{want}):
		t.Errorf("Grad(%v, %v) tells the slopes %v, want %v", s, x, d, want)
	case e == api.OK:
		if same, g := tape.Eval(s, x); g != api.OK || !slices.Equal(v, same) {
			t.Errorf("Grad(%v, %v) tells the values %v, Eval %v, %d", s, x, v, same, g)
		}
	}
}

// TestSlopes is P5.3: the slopes of each kind, by hand. The operands are 2 x0 and 3 x1, so that slopes within are not 1.
func TestSlopes(t *testing.T) {
	zero := point(0)
	fifth := iv(math.Nextafter(0.2, 0), 0.2)
	for _, c := range []struct {
		o    op
		a, b api.Ival // what the operands are
		want box
	}{
		{lit(2, 3), iv(0, 1), iv(0, 1), box{zero, zero}},
		{variable(0), iv(1, 2), iv(3, 6), box{point(1), zero}},
		{variable(1), iv(1, 2), iv(3, 6), box{zero, point(1)}},
		{both(api.TAdd, 4, 5), iv(1, 2), iv(3, 6), box{point(2), point(3)}},
		{both(api.TAdd, 4, 4), iv(1, 2), iv(3, 6), box{point(4), zero}},
		{both(api.TSub, 4, 5), iv(1, 2), iv(3, 6), box{point(2), point(-3)}},
		{both(api.TSub, 4, 4), iv(1, 2), iv(3, 6), box{zero, zero}},
		{both(api.TMul, 4, 5), iv(1, 2), iv(3, 6), box{iv(6, 12), iv(3, 6)}},
		{both(api.TMul, 4, 4), iv(1, 2), iv(3, 6), box{iv(4, 8), zero}},
		{both(api.TDiv, 4, 5), iv(1, 2), iv(3, 6), box{ival.Div(point(2), iv(3, 6)), ival.Div(ival.Neg(ival.Mul(ival.Div(iv(1, 2), iv(3, 6)), point(3))), iv(3, 6))}},
		{both(api.TDiv, 5, 4), iv(1, 2), iv(3, 6), box{iv(-12, -1.5), iv(1.5, 3)}},
		{both(api.TDiv, 4, 4), iv(1, 2), iv(3, 6), box{iv(-2, 1), zero}},
		{of(api.TNeg, 4), iv(1, 2), iv(3, 6), box{point(-2), zero}},
		{of(api.TNeg, 5), iv(1, 2), iv(3, 6), box{zero, point(-3)}},
		{pow(4, 0), iv(-1, 2), iv(3, 6), box{zero, zero}},
		{pow(4, 1), iv(-1, 2), iv(3, 6), box{point(2), zero}},
		{pow(4, 2), iv(-1, 2), iv(3, 6), box{iv(-4, 8), zero}},
		{pow(4, 3), iv(-1, 2), iv(3, 6), box{iv(0, 24), zero}},
		{pow(4, 64), iv(-1, 2), iv(3, 6), box{iv(-128, 0x1p70), zero}},
		{pow(4, -1), iv(1, 2), iv(3, 6), box{iv(-2, -0.5), zero}},
		{pow(4, -2), iv(1, 2), iv(3, 6), box{iv(-4, -0.5), zero}},
		{pow(4, -63), iv(1, 2), iv(3, 6), box{iv(-126, -126*0x1p-64), zero}},
		{of(api.TSqrt, 4), iv(4, 16), iv(3, 6), box{iv(0.25, 0.5), zero}},
		{of(api.TExp, 4), iv(1, 2), iv(3, 6), box{ival.Mul(elem.Exp(iv(1, 2)), point(2)), zero}},
		{of(api.TLog, 4), iv(1, 2), iv(3, 6), box{iv(1, 2), zero}},
		{of(api.TSin, 4), iv(1, 2), iv(3, 6), box{ival.Mul(elem.Cos(iv(1, 2)), point(2)), zero}},
		{of(api.TCos, 4), iv(1, 2), iv(3, 6), box{ival.Mul(elem.Sin(iv(1, 2)), point(-2)), zero}},
		{of(api.TAtan, 4), iv(1, 2), iv(3, 6), box{iv(2*fifth.Lo, 1), zero}},
		{of(api.TAtan, 4), iv(-1, 2), iv(3, 6), box{iv(2*fifth.Lo, 2), zero}}, // by a square, not a product
	} {
		s := lastOf(2, variable(0), variable(1), lit(2, 2), lit(3, 3), both(api.TMul, 2, 0), both(api.TMul, 1, 3), c.o)
		third := ival.Div(c.b, point(3))
		askGrad(t, s, box{ival.Div(c.a, point(2)), third}, c.want, api.OK)
	}
}

// TestRootsSlopes is P5.3: a root has none where it holds 0, whatever it is of; without variables there is none to have.
func TestRootsSlopes(t *testing.T) {
	root := lastOf(1, variable(0), of(api.TSqrt, 0))
	for _, a := range (box{iv(0, 4), point(0), iv(0, least)}) {
		askEval(t, root, box{a}, ival.Sqrt(a), api.OK)
		askGrad(t, root, box{a}, nil, api.ErrDomain)
		constant := []op{{Kind: api.TConst, Lit: a}, of(api.TSqrt, 0)}
		askGrad(t, lastOf(1, constant...), box{iv(1, 2)}, nil, api.ErrDomain)
		askGrad(t, lastOf(0, constant...), nil, box{}, api.OK)
	}
	askGrad(t, root, box{iv(-1, 4)}, nil, api.ErrDomain)
	if _, d, e := tape.Grad(root, box{iv(least, 1)}); e != api.OK || d[0][0].Lo != 0.5 {
		t.Error("from the least float on:", d, e)
	}
}

// TestWideSlopes is P5.3: by whichever variable, whoever needs it; where values are bounded.
func TestWideSlopes(t *testing.T) {
	steep := func(n int) []op { // 10^400 times x
		return []op{variable(n), lit(1e200, 1e200), both(api.TMul, 0, 1), both(api.TMul, 2, 1)}
	}
	small := iv(0, 1e-200)
	for n := range 3 {
		x := slices.Repeat(box{small}, 3)
		if _, e := tape.Eval(lastOf(3, steep(n)...), x); e != api.OK {
			t.Fatal("Eval:", e)
		}
		for out := range 4 {
			askGrad(t, api.Tape{Vars: 3, Ops: steep(n), Outs: []int{out}}, x, nil, api.ErrWide)
		}
		if v, d, e := tape.Grad(api.Tape{Vars: 3, Ops: steep(n)}, x); v != nil || d != nil || e != api.ErrWide {
			t.Error("without Outs:", v, d, e)
		}
	}
	lowest := lastOf(1, variable(0), pow(0, -64))
	askEval(t, lowest, box{iv(1, 2)}, iv(0x1p-64, 1), api.OK)
	askGrad(t, lowest, box{iv(1, 2)}, nil, api.ErrWide) // the power -65 is Whole
	askGrad(t, lastOf(1, lit(1, 2), pow(0, -64)), box{iv(1, 2)}, box{point(0)}, api.OK)
	askGrad(t, lastOf(0, lit(1, 2), pow(0, -64)), nil, box{}, api.OK)
	askGrad(t, lastOf(1, variable(0), of(api.TExp, 0), of(api.TExp, 1)), box{point(6.5)}, box{ival.Mul(elem.Exp(elem.Exp(point(6.5))), elem.Exp(point(6.5)))}, api.OK)
}

// TestFirstErrorOfSlopes is P5.3: operation by operation, the value ahead of its slopes.
func TestFirstErrorOfSlopes(t *testing.T) {
	wideValue := op{Kind: api.TConst, Lit: all}
	outsideValue := of(api.TLog, 0) // of x0, which holds 0
	outsideSlope := of(api.TSqrt, 0)
	x := box{iv(0, 1), iv(1, 2)}
	wideSlope := pow(1, -64) // of x1
	for _, c := range []struct {
		first, second op
		want          api.Errno
	}{
		{outsideSlope, wideValue, api.ErrDomain},
		{wideValue, outsideSlope, api.ErrWide},
		{wideSlope, outsideValue, api.ErrWide},
		{outsideValue, wideSlope, api.ErrDomain},
		{wideSlope, outsideSlope, api.ErrWide},
		{outsideSlope, wideSlope, api.ErrDomain},
		{wideValue, outsideValue, api.ErrWide},
		{outsideValue, wideValue, api.ErrDomain},
	} {
		s := lastOf(2, variable(0), variable(1), c.first, c.second)
		askGrad(t, s, x, nil, c.want)
		s.Outs = []int{0}
		askGrad(t, s, x, nil, c.want)
		s.Outs = nil
		if v, d, e := tape.Grad(s, x); v != nil || d != nil || e != c.want {
			t.Errorf("Grad(%v, %v) = %v, %v, %d, want %d", s, x, v, d, e, c.want)
		}
	}
	askGrad(t, lastOf(1, variable(0), pow(0, -64)), box{point(1e-300)}, nil, api.ErrWide)
	askGrad(t, lastOf(1, variable(0), pow(0, -64)), box{iv(0, 1)}, nil, api.ErrDomain)
}

// TestSlopesOfOuts is P5.3 and R4: in the order of Outs, by all variables in theirs, each in memory of its own.
func TestSlopesOfOuts(t *testing.T) {
	s := api.Tape{Vars: 3, Ops: []op{variable(2), variable(0), both(api.TMul, 0, 1), lit(7, 7)}, Outs: []int{2, 0, 2, 3}}
	x := box{iv(1, 2), iv(3, 4), iv(5, 6)}
	product := box{iv(5, 6), point(0), iv(1, 2)}
	want := []box{product, {point(0), point(0), point(1)}, product, {point(0), point(0), point(0)}}
	v, d, e := tape.Grad(s, x)
	if e != api.OK || !slices.Equal(v, box{iv(5, 12), iv(5, 6), iv(5, 12), iv(7, 7)}) || !sameRows(d, want) {
		t.Fatal(v, d, e)
	}
	for i := range d {
		full := d[i][:cap(d[i])]
		for j := range full {
			full[j] = point(99)
		}
		for k := i + 1; k < len(d); k++ {
			if !slices.Equal(d[k], want[k]) {
				t.Errorf("the lists %d and %d share memory", i, k)
			}
		}
	}
	for _, s := range []api.Tape{{}, {Ops: []op{lit(1, 2)}}} {
		if v, d, e := tape.Grad(s, nil); len(v) != 0 || len(d) != 0 || e != api.OK {
			t.Error("without Outs:", v, d, e)
		}
	}
	if v, d, e := tape.Grad(lastOf(0, lit(1, 2)), nil); !slices.Equal(v, box{iv(1, 2)}) || len(d) != 1 || len(d[0]) != 0 || e != api.OK {
		t.Error("without variables:", v, d, e)
	}
}

// TestGradByWords is P5.3 of tapes by chance.
func TestGradByWords(t *testing.T) {
	r := chance(54)
	seen := map[api.Errno]int{}
	besides := map[api.Errno]int{} // where Eval tells none
	for n := range 20000 {
		vars := n % 5
		s := someTape(r, kindsUpTo(api.TAtan), vars, vars+1+n%9, n%4, []int{2, 64}[n%2])
		x := someBox(r, vars)
		v, d, e := tape.Grad(s, x)
		want, rows, f := wordsGrad(s, x)
		if e != f || !slices.Equal(v, want) || !sameRows(d, rows) {
			t.Errorf("Grad(%v, %v) = %v, %v, %d, want %v, %v, %d", s, x, v, d, e, want, rows, f)
		}
		for _, y := range slices.Concat(append(d, v)...) {
			if !ival.Right(y) {
				t.Errorf("Grad(%v, %v) tells %v", s, x, y)
			}
		}
		seen[e]++
		if _, f := tape.Eval(s, x); f == api.OK {
			besides[e]++
		}
	}
	if seen[api.OK] < 1000 || seen[api.ErrDomain] < 1000 || seen[api.ErrWide] < 50 || len(seen) != 3 || besides[api.ErrDomain] < 20 || besides[api.ErrWide] < 20 {
		t.Error("what was told:", seen, besides)
	}
}

// longest is a tape as long as may be, that has values: what it does is soon near to 0 or 1.
func longest() api.Tape {
	t := api.Tape{Vars: 64}
	for n := range 64 {
		t.Ops = append(t.Ops, variable(n))
	}
	for n := 64; len(t.Ops) < 4000; n++ {
		a, b := len(t.Ops)-1, len(t.Ops)-1-n%64
		kinds := []op{of(api.TSin, b), of(api.TCos, a), both(api.TMul, a, b), of(api.TAtan, a), both(api.TSub, b, a), of(api.TNeg, a), pow(b, 3), of(api.TSin, a)}
		t.Ops = append(t.Ops, kinds[n%len(kinds)])
	}
	for n := range 400 {
		t.Outs = append(t.Outs, 3999-n)
	}
	return t
}

// TestLongest is P5.2, P5.3 and P5.6 at the limits.
func TestLongest(t *testing.T) {
	s := longest()
	var x box
	for n := range 64 {
		x = append(x, point(float64(n-32)/64))
	}
	values, slopes, f := wordsGrad(s, x)
	v, d, e := tape.Grad(s, x)
	if f != api.OK || e != api.OK || !slices.Equal(v, values) || !sameRows(d, slopes) {
		t.Errorf("Grad: %d, %d", e, f)
	}
	if v, e := tape.Eval(s, x); e != api.OK || !slices.Equal(v, values) {
		t.Errorf("Eval: %d", e)
	}
	trimmed, e := tape.Trim(s)
	if e != api.OK || !sameTape(trimmed, wordsTrim(s)) {
		t.Errorf("Trim: %d", e)
	}
	if v, d, e := tape.Grad(trimmed, x); e != api.OK || !slices.Equal(v, values) || !sameRows(d, slopes) {
		t.Errorf("Grad of what Trim made: %d", e)
	}
}
