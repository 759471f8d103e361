package picard_test

import (
	"math"
	"slices"
	"testing"

	"orrery/api"
	"orrery/ival"
	"orrery/picard"
	"orrery/tape"
)

func constant(v float64) api.Tape { return lastOf(lit(v, v)) }

func itself() api.Tape { return lastOf(variable(0)) }

func square() api.Tape { return lastOf(variable(0), both(api.TMul, 0, 0)) }

func inverse() api.Tape { return lastOf(lit(1, 1), variable(0), both(api.TDiv, 0, 1)) }

// turning is x' = y, y' = -x.
func turning() api.Tape {
	return api.Tape{Vars: 2, Ops: []op{variable(0), variable(1), of(api.TNeg, 0)}, Outs: []int{1, 2}}
}

// TestExamples has all rows of the chapter's examples.
func TestExamples(t *testing.T) {
	a := ask(t, constant(1), points(0), 1.0/32)
	if a.e != api.OK || !liesIn(box{iv(0, 1.0/32)}, a.box) || !liesIn(a.box, box{iv(-1.0/16, 1.0/16)}) {
		t.Error("x' = 1:", a)
	}
	askError(t, "x' = x x", square(), points(1), 2, api.ErrBound)
	askError(t, "x' = 1 / x", inverse(), box{iv(0, 1)}, 0, api.ErrBound)
	askError(t, "a time below 0", itself(), points(1), -1, api.ErrArg)
}

// TestTapesThatMayNotBe is P8.1: that comes ahead of all that is wrong besides.
func TestTapesThatMayNotBe(t *testing.T) {
	for _, s := range wrongTapes() {
		for _, x := range []box{nil, {}, points(1), points(1, 2), {none}, {all}, {iv(2, 1)}} {
			for _, time := range append(wrongTimes(), 0, 0.125, 0x1p20) {
				askError(t, "no tape", s, x, time, api.ErrTape)
			}
		}
	}
}

// overAll is 1 / x of each variable, and tells so many: without rates, wherever a variable holds 0.
func overAll(vars, outs int) api.Tape {
	s := api.Tape{Vars: vars, Ops: []op{lit(1, 1)}, Outs: make([]int, outs)}
	for j := range vars {
		put(&s, both(api.TDiv, 0, put(&s, variable(j))))
	}
	return s
}

// TestNoFields is P8.1: 1 to 24 variables, as many Outs, as many intervals.
func TestNoFields(t *testing.T) {
	zeros := func(many int) box { return slices.Repeat(points(0), many) }
	for _, time := range []float64{0, 0.125} {
		for _, c := range []struct{ vars, outs, many int }{
			{0, 0, 0}, {0, 0, 1}, {25, 25, 25}, {64, 64, 64}, // too few, or too many
			{1, 0, 1}, {1, 2, 1}, {2, 1, 2}, {2, 3, 2}, {24, 23, 24}, {24, 25, 24}, {24, 400, 24}, // Outs
			{1, 1, 0}, {1, 1, 2}, {2, 2, 1}, {2, 2, 3}, {3, 3, 2}, {24, 24, 23}, {24, 24, 25}, {1, 1, 100000}, // intervals
		} {
			askError(t, "how many", overAll(c.vars, c.outs), zeros(c.many), time, api.ErrArg)
			askError(t, "how many, without end", overAll(c.vars, c.outs), slices.Repeat(box{all}, c.many), time, api.ErrArg)
		}
		for _, vars := range []int{1, 2, 3, 23, 24} {
			askError(t, "as many as may be", overAll(vars, vars), zeros(vars), time, api.ErrBound)
			if a := ask(t, overAll(vars, vars), slices.Repeat(points(1), vars), time); a.e != api.OK {
				t.Errorf("%d variables, each 1, for %g: %v", vars, time, a)
			}
		}
	}
	askError(t, "nothing", api.Tape{}, nil, 0, api.ErrArg)
}

// TestIntervalsOfQuestions is P8.1: which may not be, or are empty, and behind these which are not bounded.
func TestIntervalsOfQuestions(t *testing.T) {
	for many := 1; many <= 3; many++ {
		for at := range many {
			for _, time := range []float64{0, 0.125, 0x1p20} {
				x := points(0, 1, 2)[:many]
				for _, wrong := range wrongIntervals() {
					x[at] = wrong
					askError(t, "may not be, or empty", overAll(many, many), x, time, api.ErrArg)
					if many > 1 {
						y := slices.Clone(x)
						y[(at+1)%many] = all
						askError(t, "and one without end", overAll(many, many), y, time, api.ErrArg)
					}
				}
				for _, wrong := range boundless() {
					x[at] = wrong
					askError(t, "without end", overAll(many, many), x, time, api.ErrWide)
				}
			}
		}
	}
	askError(t, "without end, and nobody takes it", constant(1), box{all}, 0, api.ErrWide)
}

// TestTimes is P8.1: from 0 to 2^20, whatever x is.
func TestTimes(t *testing.T) {
	for _, time := range wrongTimes() {
		for _, x := range []box{points(1), {iv(-1, 1)}, {all}, {none}, {iv(0, inf)}} {
			askError(t, "no time", inverse(), x, time, api.ErrArg)
			askError(t, "no time", constant(0), x, time, api.ErrArg)
		}
	}
	for _, time := range []float64{0, minus0, least, 0x1p-1022, 0.125, 1, 1000, math.Nextafter(0x1p20, 0), 0x1p20} {
		if a := ask(t, constant(0), points(3), time); a.e != api.OK || a.box[0] != point(3) {
			t.Errorf("at rest for %g: %v", time, a)
		}
		a := ask(t, constant(-3), box{iv(1, 2)}, time)
		if a.e != api.OK || ival.Wid(a.box[0]) > 1+4*time+0x1p-40 {
			t.Errorf("x' = -3 for %g: %v", time, a)
		}
	}
}

// TestNoTime is P8.2 of the time 0: x itself, or ErrBound.
func TestNoTime(t *testing.T) {
	r := chance(81)
	seen := tally{}
	for n := range 8000 {
		vars := 1 + n%3
		s := someField(r, api.TAtan, vars, vars+r.Intn(6))
		x := someBox(r, vars, 2)
		before := slices.Clone(x)
		time := []float64{0, minus0}[n%2]
		want := api.OK
		if _, e := tape.Eval(s, x); e != api.OK {
			want = api.ErrBound
		}
		b, e := picard.Bound(s, x, time)
		if e != want || e == api.OK && !slices.Equal(b, x) || e != api.OK && b != nil {
			t.Errorf("Bound(%v, %v, 0) = %v, %d, want %d", s, x, b, e, want)
		}
		if e == api.OK {
			b[0] = none
		}
		if !slices.Equal(x, before) {
			t.Errorf("the answer is the argument: %v", x)
		}
		seen[e]++
	}
	seen.wants(t, 1000, api.OK, api.ErrBound)
}

// TestWithoutRates is P8.1: where the tape tells an error on x, nothing bounds, however short the time is.
func TestWithoutRates(t *testing.T) {
	v := variable(0)
	for _, c := range []struct {
		name string
		s    api.Tape
		x    api.Ival
	}{
		{"1 / x", inverse(), iv(-1, 1)},
		{"1 / x, from 0", inverse(), iv(0, 1)},
		{"1 / x, at 0", inverse(), point(0)},
		{"x^-3", lastOf(v, pow(0, -3)), iv(-1, 0)},
		{"root of x", lastOf(v, of(api.TSqrt, 0)), iv(-least, 1)},
		{"log x", lastOf(v, of(api.TLog, 0)), iv(0, 1)},
		{"e^x, beyond floats", lastOf(v, of(api.TExp, 0)), iv(0, 1000)},
		{"x^64, beyond floats", lastOf(v, pow(0, 64)), point(1e10)},
		{"a rate without end", lastOf(lit(0, inf)), point(1)},
		{"a rate without any end", lastOf(op{Kind: api.TConst, Lit: all}), point(1)},
		{"outside, though nobody needs it", api.Tape{Vars: 1, Ops: []op{v, of(api.TLog, 0)}, Outs: []int{0}}, iv(-1, 1)},
		{"wide, though nobody needs it", api.Tape{Vars: 1, Ops: []op{v, lit(0, inf)}, Outs: []int{0}}, iv(-1, 1)},
	} {
		for _, time := range []float64{0, least, 0x1p-60, 0.125, 0x1p20} {
			askError(t, c.name, c.s, box{c.x}, time, api.ErrBound)
		}
	}
}

// TestFunctionOfArguments is R1, R3 and R4.
func TestFunctionOfArguments(t *testing.T) {
	for _, time := range []float64{0, 0.125, 1} {
		for _, s := range []api.Tape{turning(), {Vars: 2, Ops: []op{lit(0, 0)}, Outs: []int{0, 0}}} {
			x := box{iv(1, 2), iv(-1, 1)}
			ops, outs, begin := slices.Clone(s.Ops), slices.Clone(s.Outs), slices.Clone(x)
			first, again := ask(t, s, x, time), ask(t, s, x, time)
			if !slices.Equal(first.box, again.box) || first.e != again.e {
				t.Error("asked twice:", first, again)
			}
			kept := slices.Clone(again.box)
			for i := range first.box {
				first.box[i] = none
			}
			if !slices.Equal(x, begin) || !slices.Equal(kept, again.box) || !slices.Equal(ops, s.Ops) || !slices.Equal(outs, s.Outs) {
				t.Error("what was handed in is changed:", s, x, again)
			}
		}
	}
}

// TestLongest is P1: as many variables and operations as may be, with functions throughout.
func TestLongest(t *testing.T) {
	s := api.Tape{Vars: api.MaxDim}
	for j := range api.MaxDim {
		put(&s, variable(j))
	}
	for len(s.Ops) < api.MaxOps-1 {
		n := len(s.Ops)
		put(&s, both(api.TAdd, n%api.MaxDim, n-1))
		put(&s, of(api.TSin, n))
	}
	for i := range api.MaxDim {
		s.Outs = append(s.Outs, len(s.Ops)-1-i)
	}
	for _, x := range []box{slices.Repeat(box{iv(-1, 2)}, api.MaxDim), slices.Repeat(points(0.25), api.MaxDim)} {
		for _, time := range []float64{0, 0x1p-20, 0.125, 0x1p20} {
			ask(t, s, x, time)
		}
	}
}
