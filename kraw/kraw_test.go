package kraw_test

import (
	"math"
	"math/rand"
	"slices"
	"testing"

	"orrery/api"
	"orrery/elem"
	"orrery/ival"
	"orrery/kraw"
	"orrery/tape"
)

// askError asks for an error, and nothing beside it.
func askError(t *testing.T, name string, s api.Tape, x, p box, want api.Errno) {
	t.Helper()
	if z, e := kraw.Solve(s, x, p); e != want || z != nil {
		t.Errorf("%s: Solve(%v, %v, %v) = %v, %d, want the error %d", name, s, x, p, z, e, want)
	}
}

// TestExamples has all rows of the chapter's examples.
func TestExamples(t *testing.T) {
	two := lastOf(1, variable(0), both(api.TMul, 0, 0), lit(2, 2), both(api.TSub, 1, 2))
	a := ask(t, two, box{iv(1.4, 1.5)}, nil)
	if a.e != api.OK || !holds(ival.Sqr(a.box[0]), whole(2)) || ival.Wid(a.box[0]) > 0x1p-20 {
		t.Error("v v - 2 on {1.4, 1.5}:", a)
	}
	askError(t, "two roots", two, box{iv(-2, 2)}, nil, api.ErrRoot)
	askError(t, "no root", two, box{iv(2, 3)}, nil, api.ErrNone)

	a = ask(t, lineOf([][]float64{{2, 1}, {1, 2}}, []float64{3, 3}), box{iv(0, 2), iv(0, 2)}, nil)
	if a.e != api.OK || !holdsAll(a.box, []number{whole(1), whole(1)}) {
		t.Error("2 v0 + v1 = 3, v0 + 2 v1 = 3:", a)
	}
	askError(t, "1 / v", lastOf(1, lit(1, 1), variable(0), both(api.TDiv, 0, 1)), box{iv(-1, 1)}, nil, api.ErrDomain)
	askError(t, "v without end", lastOf(1, variable(0)), box{iv(0, inf)}, nil, api.ErrArg)
}

// wrongTapes may not be.
func wrongTapes() []api.Tape {
	v := variable(0)
	return []api.Tape{
		{Vars: -1},
		{Vars: 65, Ops: []op{v}, Outs: []int{0}},
		{Vars: 1, Outs: []int{0}},
		lastOf(1, variable(1)),
		lastOf(1, variable(-1)),
		lastOf(0, v),
		lastOf(1, v, of(api.TNeg, 1)),
		lastOf(1, v, both(api.TAdd, 0, 1)),
		lastOf(1, v, both(api.TMul, -1, 0)),
		lastOf(1, v, pow(0, 65)),
		lastOf(1, v, pow(0, -65)),
		lastOf(1, v, op{Kind: 0}),
		lastOf(1, v, op{Kind: 15}),
		lastOf(1, v, op{Kind: api.TConst, Lit: none}),
		lastOf(1, v, lit(2, 1)),
		lastOf(1, v, lit(nan, 1)),
		lastOf(1, v, lit(minus0, 1)),
		{Vars: 1, Ops: []op{v}, Outs: []int{1}},
		{Vars: 1, Ops: []op{v}, Outs: []int{-1}},
		{Vars: 1, Ops: slices.Repeat([]op{v}, 4001), Outs: []int{0}},
		{Vars: 1, Ops: []op{v}, Outs: make([]int, 401)},
	}
}

// wrongIntervals may not be.
func wrongIntervals() box {
	return box{iv(nan, 1), iv(1, nan), iv(nan, nan), iv(2, 1), iv(minus0, 1), iv(-1, minus0), iv(minus0, minus0), iv(inf, inf), iv(-inf, -inf), iv(1, -inf), iv(inf, 1)}
}

// boundless ones may be, but are not bounded.
func boundless() box { return box{none, all, iv(0, inf), iv(-inf, 0)} }

// TestTapesThatMayNotBe is P7.1: that comes ahead of all that is wrong besides.
func TestTapesThatMayNotBe(t *testing.T) {
	lists := []box{nil, {}, points(1), points(0), points(1, 2), {none}, {all}, {iv(2, 1)}, slices.Repeat(points(1), 25)}
	for _, s := range wrongTapes() {
		for _, x := range lists {
			for _, p := range lists {
				askError(t, "no tape", s, x, p, api.ErrTape)
			}
		}
	}
}

// over has no value, wherever a variable holds 0: what is wrong with a question comes ahead of that.
func over(vars, outs int) api.Tape {
	s := api.Tape{Vars: vars, Ops: []op{lit(1, 1)}, Outs: make([]int, outs)}
	for j := range vars {
		put(&s, both(api.TDiv, 0, put(&s, variable(j))))
	}
	return s
}

// TestHowMany is P7.1: 1 to 24 unknowns, as many Outs, and Vars for these and for the parameters.
func TestHowMany(t *testing.T) {
	zeros := func(many int) box { return slices.Repeat(points(0), many) }
	for _, c := range []struct{ vars, outs, unknowns, parameters int }{
		{0, 0, 0, 0}, {1, 0, 0, 1}, {1, 1, 0, 1}, {2, 1, 0, 2}, {25, 25, 25, 0}, {64, 25, 25, 39}, {64, 64, 64, 0}, {64, 0, 0, 64},
		{1, 0, 1, 0}, {1, 2, 1, 0}, {2, 1, 2, 0}, {2, 3, 2, 0}, {24, 23, 24, 0}, {24, 25, 24, 0}, {24, 400, 24, 0}, {3, 3, 2, 1}, {3, 1, 2, 1},
		{0, 1, 1, 0}, {2, 1, 1, 0}, {1, 1, 1, 1}, {2, 2, 2, 1}, {3, 2, 2, 0}, {3, 2, 2, 2}, {24, 24, 24, 1}, {25, 24, 24, 0}, {64, 24, 24, 39}, {64, 24, 24, 41},
	} {
		askError(t, "how many", over(c.vars, c.outs), zeros(c.unknowns), zeros(c.parameters), api.ErrArg)
	}
	for _, c := range []struct{ unknowns, parameters int }{{1, 0}, {1, 1}, {2, 0}, {3, 5}, {24, 0}, {24, 40}, {1, 63}} {
		s := over(c.unknowns+c.parameters, c.unknowns)
		askError(t, "as many as may be", s, zeros(c.unknowns), zeros(c.parameters), api.ErrDomain)
		ones := slices.Repeat(points(1), 64)
		askError(t, "1 is not 0", s, ones[:c.unknowns], ones[:c.parameters], api.ErrNone)
	}
	askError(t, "nothing", api.Tape{}, nil, nil, api.ErrArg)
}

// TestIntervalsOfQuestions is P7.1: all may be, and are bounded, those of x and those of p.
func TestIntervalsOfQuestions(t *testing.T) {
	for _, wrong := range append(wrongIntervals(), boundless()...) {
		for many := 1; many <= 3; many++ {
			for at := range many {
				right := points(0, 1, 2)[:many]
				list := slices.Clone(right)
				list[at] = wrong
				askError(t, "of x", over(many, many), list, nil, api.ErrArg)
				askError(t, "of x, beside p", over(2*many, many), list, right, api.ErrArg)
				askError(t, "of p", over(2*many, many), right, list, api.ErrArg)
				askError(t, "of both", over(2*many, many), list, list, api.ErrArg)
			}
		}
	}
	widest := iv(-math.MaxFloat64, math.MaxFloat64)
	if a := ask(t, lastOf(1, variable(0)), box{widest}, nil); a.e == api.ErrNone || a.e == api.OK && !holds(a.box[0], whole(0)) {
		t.Error("v on the widest interval:", a)
	}
	if a := ask(t, lastOf(2, variable(1)), points(0), box{widest}); a.e == api.OK {
		t.Error("q on the widest interval:", a)
	}
}

// TestErrorsOfTapes is P7.1: what tape.Grad tells on x and p.
func TestErrorsOfTapes(t *testing.T) {
	v, q := variable(0), variable(1)
	for _, c := range []struct {
		name string
		s    api.Tape
		x    api.Ival
		want api.Errno
	}{
		{"1 / v", lastOf(2, v, pow(0, -1)), iv(-1, 1), api.ErrDomain},
		{"log v", lastOf(2, v, of(api.TLog, 0)), iv(0, 1), api.ErrDomain},
		{"root of v", lastOf(2, v, of(api.TSqrt, 0)), iv(-1, 1), api.ErrDomain},
		{"root of v, without a slope at 0", lastOf(2, v, of(api.TSqrt, 0)), iv(0, 1), api.ErrDomain},
		{"1 / q", lastOf(2, q, pow(0, -1), v), iv(1, 1), api.ErrDomain},
		{"v / q", lastOf(2, v, q, both(api.TDiv, 0, 1)), iv(1, 2), api.ErrDomain},
		{"e^(1000 v)", lastOf(2, v, lit(1000, 1000), both(api.TMul, 0, 1), of(api.TExp, 2)), iv(0, 1), api.ErrWide},
		{"v^-64, whose slope is wide", lastOf(2, v, pow(0, -64)), iv(1, 2), api.ErrWide},
		{"v^2, whose slope alone is too large", lastOf(2, v, lit(0x1p1023, 0x1p1023), both(api.TMul, 0, 1), both(api.TMul, 2, 0)), iv(0, 1), api.ErrWide},
		{"a constant without end", lastOf(2, v, lit(0, inf)), iv(0, 1), api.ErrWide},
		{"first wide, then outside", lastOf(2, v, lit(0, inf), pow(0, -1)), iv(-1, 1), api.ErrWide},
		{"first outside, then wide", lastOf(2, v, pow(0, -1), lit(0, inf)), iv(-1, 1), api.ErrDomain},
		{"outside, though no Out needs it", api.Tape{Vars: 2, Ops: []op{v, of(api.TLog, 0)}, Outs: []int{0}}, iv(-1, 1), api.ErrDomain},
	} {
		askError(t, c.name, c.s, box{c.x}, box{iv(-1, 1)}, c.want)
	}
}

// someOp takes any kind that can stand there.
func someOp(r *rand.Rand, kinds, place, vars int) op {
	o := op{Kind: api.TVar + r.Intn(kinds-1), A: r.Intn(place), B: max(0, place-1-r.Intn(4)), N: r.Intn(7) - 3}
	if r.Intn(6) == 0 {
		o = op{Kind: api.TConst, Lit: someInterval(r, 2)}
	}
	if r.Intn(2) == 0 && o.Kind != api.TConst {
		o.A, o.B = o.B, o.A
	}
	if o.Kind == api.TVar {
		o.N = r.Intn(vars)
	}
	return o
}

// someTape has all variables first, and tells its last operations.
func someTape(r *rand.Rand, kinds, vars, many, outs int) api.Tape {
	s, _ := variables(vars)
	for range many {
		put(&s, someOp(r, kinds, len(s.Ops), vars))
	}
	for i := range outs {
		s.Outs = append(s.Outs, len(s.Ops)-1-i)
	}
	return s
}

func someBox(r *rand.Rand, many int) box {
	var x box
	for range many {
		x = append(x, someInterval(r, 2))
	}
	return x
}

// TestAnyQuestion is P1 and P7.1: tapes by chance have tape.Grad's error, or one of the three answers.
func TestAnyQuestion(t *testing.T) {
	r := chance(71)
	seen := tally{}
	for n := range 12000 {
		unknowns, parameters := 1+n%3, r.Intn(3)
		s := someTape(r, api.TAtan, unknowns+parameters, unknowns+r.Intn(6), unknowns)
		x, p := someBox(r, unknowns), someBox(r, parameters)
		_, _, e := tape.Grad(s, slices.Concat(x, p))
		if e != api.OK {
			askError(t, "as tape.Grad", s, x, p, e)
		} else {
			e = ask(t, s, x, p).e
		}
		seen[e]++
	}
	seen.wants(t, 50, api.OK, api.ErrRoot, api.ErrNone, api.ErrDomain)
}

// TestFunctionOfArguments is R1, R3 and R4.
func TestFunctionOfArguments(t *testing.T) {
	s, x, p := square(), box{iv(1, 2)}, box{iv(1.5, 2.5)}
	ops, outs := slices.Clone(s.Ops), slices.Clone(s.Outs)
	first := ask(t, s, x, p)
	again := ask(t, s, x, p)
	if first.e != api.OK || !slices.Equal(first.box, again.box) {
		t.Error("asked twice:", first, again)
	}
	first.box[0] = none
	if x[0] != iv(1, 2) || p[0] != iv(1.5, 2.5) || again.box[0] == none || !slices.Equal(ops, s.Ops) || !slices.Equal(outs, s.Outs) {
		t.Error("what was handed in is changed:", s, x, p, again)
	}
	for _, at := range []float64{1, 3} {
		thin := points(at)
		a := ask(t, lastOf(1, variable(0), lit(at, at), both(api.TSub, 0, 1)), thin, nil)
		if a.e == api.OK {
			a.box[0] = none
		}
		if thin[0] != point(at) {
			t.Error("the answer is the argument:", thin)
		}
	}
	line := lineOf([][]float64{{2, 1}, {1, 2}}, []float64{3, 3})
	without, empty := ask(t, line, box{iv(0, 2), iv(0, 2)}, nil), ask(t, line, box{iv(0, 2), iv(0, 2)}, box{})
	if without.e != api.OK || !slices.Equal(without.box, empty.box) {
		t.Error("nil and an empty list:", without, empty)
	}
}

// TestLongest is P1: as many unknowns, variables and operations as may be, with functions throughout.
func TestLongest(t *testing.T) {
	s, places := variables(api.MaxVars)
	for len(s.Ops) < api.MaxOps-24 {
		n := len(s.Ops)
		put(&s, both(api.TAdd, places[n%24], n-1))
		put(&s, of(api.TSin, n))
	}
	for i := range 24 {
		s.Outs = append(s.Outs, put(&s, both(api.TSub, places[i], len(s.Ops)-1-i)))
	}
	wide := slices.Repeat(box{iv(-1, 2)}, api.MaxVars)
	narrow := slices.Repeat(box{iv(0.25, 0.25+0x1p-20)}, api.MaxVars)
	for _, v := range []box{wide, narrow, slices.Repeat(points(0), api.MaxVars)} {
		if _, _, e := tape.Grad(s, v); e != api.OK {
			askError(t, "the longest", s, v[:24], v[24:], e)
		} else {
			ask(t, s, v[:24], v[24:])
		}
	}
}

// wavering is a float a, and the next one, whose angle is told lower than that of all numbers from a on.
func wavering(t *testing.T) (a, next float64) {
	r := chance(82)
	for range 10000 {
		a = 0.5 + r.Float64()/2
		next = math.Nextafter(a, inf)
		if elem.Atan(point(next)).Lo < elem.Atan(iv(a, 1)).Lo {
			return a, next
		}
	}
	t.Skip("angles waver nowhere")
	return 0, 0
}

// TestWiderOnLess is P7.1 where a part of x is outside, as functions are told there, and x is not: that is no error.
func TestWiderOnLess(t *testing.T) {
	a, next := wavering(t)
	under := math.Nextafter(elem.Atan(iv(a, 1)).Lo, -inf)
	s := lastOf(1, variable(0), of(api.TAtan, 0), lit(under, under), both(api.TSub, 1, 2), of(api.TLog, 3), lit(next, next), both(api.TSub, 0, 5))
	askError(t, "at one number", s, points(next), nil, api.ErrDomain)
	root := [][]number{{exactly(next)}}
	if got := askKnown(t, s, box{iv(a, 1)}, nil, root); got.e != api.OK {
		t.Errorf("from %v to 1: %v", a, got)
	}
	askKnown(t, s, box{iv(a, math.Nextafter(next, inf))}, nil, root) // the middle is outside
}
