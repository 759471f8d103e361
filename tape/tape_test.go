package tape_test

import (
	"math"
	"reflect"
	"slices"
	"testing"

	"orrery/api"
	"orrery/tape"
)

// TestExamples has all rows of the chapter's examples.
func TestExamples(t *testing.T) {
	x := box{iv(1, 2)}
	if v, e := tape.Eval(parabola(), x); e != api.OK || !slices.Equal(v, box{iv(-1, 2)}) {
		t.Error("Eval:", v, e)
	}
	if v, d, e := tape.Grad(parabola(), x); e != api.OK || !slices.Equal(v, box{iv(-1, 2)}) || !sameRows(d, []box{{iv(2, 4)}}) {
		t.Error("Grad:", v, d, e)
	}
	if v, e := tape.Eval(lastOf(1, lit(1, 1), variable(0), both(api.TDiv, 0, 1)), box{iv(0, 1)}); v != nil || e != api.ErrDomain {
		t.Error("Eval of a quotient:", v, e)
	}
	if v, e := tape.Eval(lastOf(1, variable(0), of(api.TSqrt, 0)), box{iv(-1, 1)}); v != nil || e != api.ErrDomain {
		t.Error("Eval of a root:", v, e)
	}
	twice := api.Tape{Vars: 1, Ops: []op{variable(0), variable(0), both(api.TAdd, 0, 1), lit(5, 5)}, Outs: []int{2}}
	if got, e := tape.Trim(twice); e != api.OK || !sameTape(got, lastOf(1, variable(0), both(api.TAdd, 0, 0))) {
		t.Error("Trim:", got, e)
	}
}

// allowed asks all calls about a tape that may be, on variables that are all 1.
func allowed(t *testing.T, name string, s api.Tape) {
	t.Helper()
	if e := tape.Right(s); e != api.OK {
		t.Errorf("%s: Right is %d", name, e)
	}
	x := slices.Repeat(box{point(1)}, s.Vars)
	if _, e := tape.Eval(s, x); e == api.ErrTape || e == api.ErrArg {
		t.Errorf("%s: Eval is refused: %d", name, e)
	}
	if _, _, e := tape.Grad(s, x); e == api.ErrTape || e == api.ErrArg {
		t.Errorf("%s: Grad is refused: %d", name, e)
	}
	if _, e := tape.Trim(s); e != api.OK {
		t.Errorf("%s: Trim is refused: %d", name, e)
	}
}

// refused asks all calls about a tape that may not be: that comes ahead of what is wrong with x, and nothing is told beside it.
func refused(t *testing.T, name string, s api.Tape) {
	t.Helper()
	if e := tape.Right(s); e != api.ErrTape {
		t.Errorf("%s: Right is %d", name, e)
	}
	if got, e := tape.Trim(s); e != api.ErrTape || !reflect.DeepEqual(got, api.Tape{}) {
		t.Errorf("%s: Trim is %v, %d", name, got, e)
	}
	for _, x := range []box{nil, {point(1)}, {point(1), point(2)}, slices.Repeat(box{point(1)}, min(max(s.Vars, 0), 100)), {none}, {iv(nan, 1)}} {
		if v, e := tape.Eval(s, x); e != api.ErrTape || v != nil {
			t.Errorf("%s: Eval is %v, %d", name, v, e)
		}
		if v, d, e := tape.Grad(s, x); e != api.ErrTape || v != nil || d != nil {
			t.Errorf("%s: Grad is %v, %v, %d", name, v, d, e)
		}
	}
}

// TestSizes is P5.1: how many there may be.
func TestSizes(t *testing.T) {
	constants := func(many int) []op { return slices.Repeat([]op{lit(1, 2)}, many) }
	allowed(t, "nothing", api.Tape{})
	allowed(t, "nothing, by empty lists", api.Tape{Ops: []op{}, Outs: []int{}})
	allowed(t, "64 variables", api.Tape{Vars: api.MaxVars})
	allowed(t, "no Outs", api.Tape{Vars: 1, Ops: []op{variable(0)}})
	allowed(t, "4000 operations", api.Tape{Ops: constants(4000), Outs: []int{0, 3999}})
	allowed(t, "400 Outs", api.Tape{Ops: constants(1), Outs: make([]int, 400)})
	allowed(t, "all at once", api.Tape{Vars: 64, Ops: slices.Repeat([]op{variable(63)}, 4000), Outs: slices.Repeat([]int{3999}, 400)})
	for _, vars := range []int{-1, 65, 100, -64, math.MaxInt, math.MinInt} {
		refused(t, "variables", api.Tape{Vars: vars})
		refused(t, "variables", api.Tape{Vars: vars, Ops: constants(1), Outs: []int{0}})
	}
	refused(t, "4001 operations", api.Tape{Ops: constants(4001)})
	refused(t, "100000 operations", api.Tape{Ops: constants(100000)})
	refused(t, "401 Outs", api.Tape{Ops: constants(1), Outs: make([]int, 401)})
	refused(t, "100000 Outs", api.Tape{Ops: constants(1), Outs: make([]int, 100000)})
}

// TestOuts is P5.1: each is an operation's number.
func TestOuts(t *testing.T) {
	three := []op{lit(1, 1), lit(2, 2), lit(3, 3)}
	allowed(t, "all", api.Tape{Ops: three, Outs: []int{2, 0, 1, 2}})
	refused(t, "Outs without operations", api.Tape{Outs: []int{0}})
	refused(t, "Outs without operations", api.Tape{Vars: 1, Outs: []int{0}})
	for _, n := range []int{-1, 3, 4, 4000, math.MaxInt, math.MinInt} {
		refused(t, "Outs", api.Tape{Ops: three, Outs: []int{n}})
		refused(t, "Outs", api.Tape{Ops: three, Outs: []int{0, 1, 2, n}})
		refused(t, "Outs", api.Tape{Ops: three, Outs: []int{n, 0}})
	}
}

// TestKinds is P5.1: kinds from 1 to 14.
func TestKinds(t *testing.T) {
	for kind := api.TConst; kind <= api.TAtan; kind++ {
		allowed(t, "a kind", lastOf(1, variable(0), op{Kind: kind, Lit: point(1)}))
	}
	for _, kind := range []int{0, -1, 15, 16, 100, -14, math.MaxInt, math.MinInt} {
		refused(t, "no kind", lastOf(1, op{Kind: kind, Lit: point(1)}))
		refused(t, "no kind", lastOf(1, variable(0), op{Kind: kind, Lit: point(1)}))
		refused(t, "no kind, that nobody needs", api.Tape{Vars: 1, Ops: []op{variable(0), {Kind: kind, Lit: point(1)}, variable(0)}})
	}
}

// TestOperands is P5.1: A and B are ahead.
func TestOperands(t *testing.T) {
	behind := []op{lit(1, 2), lit(1, 2)}
	for kind := api.TNeg; kind <= api.TAtan; kind++ { // with the four of two operands below: all that have some
		refused(t, "the first has none ahead", lastOf(0, of(kind, 0)))
		for n := range 3 {
			allowed(t, "ahead", api.Tape{Ops: append([]op{lit(1, 2), lit(2, 3), lit(3, 4), of(kind, n)}, behind...), Outs: []int{3}})
		}
		for _, n := range []int{-1, 3, 4, 5, 6, 4000, math.MaxInt, math.MinInt} {
			refused(t, "not ahead", api.Tape{Ops: append([]op{lit(1, 2), lit(2, 3), lit(3, 4), of(kind, n)}, behind...), Outs: []int{0}})
		}
	}
	for kind := api.TAdd; kind <= api.TDiv; kind++ {
		refused(t, "the first has none ahead", lastOf(0, both(kind, 0, 0)))
		for n := range 3 {
			allowed(t, "ahead", api.Tape{Ops: append([]op{lit(1, 2), lit(2, 3), lit(3, 4), both(kind, n, 2-n)}, behind...), Outs: []int{3}})
		}
		for _, n := range []int{-1, 3, 4, 5, 6, 4000, math.MaxInt, math.MinInt} {
			refused(t, "A not ahead", api.Tape{Ops: append([]op{lit(1, 2), lit(2, 3), lit(3, 4), both(kind, n, 0)}, behind...)})
			refused(t, "B not ahead", api.Tape{Ops: append([]op{lit(1, 2), lit(2, 3), lit(3, 4), both(kind, 0, n)}, behind...)})
			refused(t, "neither ahead", api.Tape{Ops: append([]op{lit(1, 2), lit(2, 3), lit(3, 4), both(kind, n, n)}, behind...)})
		}
	}
}

// TestNumbers is P5.1: N of variables and powers.
func TestNumbers(t *testing.T) {
	for _, vars := range []int{1, 2, 64} {
		allowed(t, "the first variable", lastOf(vars, variable(0)))
		allowed(t, "the last variable", lastOf(vars, variable(vars-1)))
		for _, n := range []int{-1, vars, vars + 1, 100, math.MaxInt, math.MinInt} {
			refused(t, "no variable", lastOf(vars, variable(n)))
		}
	}
	refused(t, "no variables", lastOf(0, variable(0)))
	for n := -64; n <= 64; n++ {
		allowed(t, "a power", lastOf(1, variable(0), pow(0, n)))
	}
	for _, n := range []int{-65, 65, 100, -100, math.MaxInt, math.MinInt} {
		refused(t, "no power", lastOf(1, variable(0), pow(0, n)))
	}
}

// TestLits is P5.1: a Lit may be, and holds something.
func TestLits(t *testing.T) {
	for _, x := range (box{point(0), iv(1, 2), iv(-least, least), iv(-greatest, greatest), all, iv(-inf, 0), iv(0, inf), iv(greatest, inf)}) {
		allowed(t, "a Lit", lastOf(0, op{Kind: api.TConst, Lit: x}))
	}
	for _, x := range append(wrongIntervals(), none) {
		refused(t, "no Lit", lastOf(0, op{Kind: api.TConst, Lit: x}))
		refused(t, "no Lit, that nobody needs", api.Tape{Ops: []op{lit(1, 2), {Kind: api.TConst, Lit: x}}, Outs: []int{0}})
	}
}

// TestJunk is P5.1 and rule R3: fields that an operation does not need are not looked at, by any call.
func TestJunk(t *testing.T) {
	r := chance(51)
	for n := range 1500 {
		vars := n % 4
		s := someTape(r, kindsUpTo(api.TAtan), vars, vars+1+n%12, n%5, 3)
		junk, x := withJunk(r, s), someBox(r, vars)
		if e := tape.Right(junk); e != api.OK {
			t.Fatalf("Right(%v) = %d", junk, e)
		}
		v, e := tape.Eval(s, x)
		if got, f := tape.Eval(junk, x); f != e || !slices.Equal(got, v) {
			t.Errorf("Eval(%v, %v) = %v, %d, want %v, %d", junk, x, got, f, v, e)
		}
		v, d, e := tape.Grad(s, x)
		if got, slopes, f := tape.Grad(junk, x); f != e || !slices.Equal(got, v) || !sameRows(slopes, d) {
			t.Errorf("Grad(%v, %v) = %v, %v, %d, want %v, %v, %d", junk, x, got, slopes, f, v, d, e)
		}
		want, _ := tape.Trim(s)
		if got, e := tape.Trim(junk); e != api.OK || !sameTape(got, want) {
			t.Errorf("Trim(%v) = %v, %d, want %v", junk, got, e, want)
		}
	}
}

// TestArgumentsStay is rule 7 of the language, and R4: what is handed in is neither changed nor handed out.
func TestArgumentsStay(t *testing.T) {
	made := func() (api.Tape, box) {
		return withJunk(chance(52), api.Tape{Vars: 2, Ops: []op{variable(0), variable(1), both(api.TAdd, 0, 1), both(api.TAdd, 0, 1), lit(1, 2), both(api.TMul, 3, 4)}, Outs: []int{5, 2, 0}}), box{iv(1, 2), iv(3, 4)}
	}
	s, x := made()
	v, _ := tape.Eval(s, x)
	w, d, _ := tape.Grad(s, x)
	u, _ := tape.Trim(s)
	keep, _ := made()
	same := func() bool { // ops with NaN in them are not equal to themselves
		return s.Vars == keep.Vars && slices.Equal(s.Outs, []int{5, 2, 0}) && slices.Equal(x, box{iv(1, 2), iv(3, 4)}) &&
			slices.EqualFunc(s.Ops, keep.Ops, func(p, q op) bool {
				return p.Kind == q.Kind && p.A == q.A && p.B == q.B && p.N == q.N &&
					math.Float64bits(p.Lit.Lo) == math.Float64bits(q.Lit.Lo) && math.Float64bits(p.Lit.Hi) == math.Float64bits(q.Lit.Hi)
			})
	}
	if !same() {
		t.Error("a call changed its arguments:", s, x)
	}
	for _, list := range append(d, v, w) {
		clear(list[:cap(list)])
	}
	clear(u.Ops[:cap(u.Ops)])
	clear(u.Outs[:cap(u.Outs)])
	if !same() {
		t.Error("an answer shares memory with an argument:", s, x)
	}
}
