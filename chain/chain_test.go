package chain_test

import (
	"math"
	"slices"
	"testing"

	"orrery/api"
	"orrery/chain"
	"orrery/ival"
)

// plain is what the chapter's examples are asked with.
func plain() control { return with(6, 100, 10) }

func with(order, steps int, width float64) control {
	return control{Order: order, Steps: steps, Width: width}
}

// atRest is a field of so many variables that do not go.
func atRest(vars int) api.Tape {
	return api.Tape{Vars: vars, Ops: []op{lit(0)}, Outs: make([]int, vars)}
}

func square() api.Tape { return lastOf(variable(0), both(api.TMul, 0, 0)) }

func overX() api.Tape { return lastOf(lit(1), variable(0), both(api.TDiv, 0, 1)) }

// spreading is x' = a number from -1 to 1.
func spreading() api.Tape { return lastOf(op{Kind: api.TConst, Lit: iv(-1, 1)}) }

// TestExamples has all rows of the chapter's examples.
func TestExamples(t *testing.T) {
	r := chance(91)
	if a := followed(t, r, steady(1), points(0), 1048576, plain()); a.e != api.OK || a.reached() != 1048576 || !ival.Has(a.last()[0], 1) {
		t.Error("x' = 1:", a)
	}
	if a := ask(t, growing().field, points(1), 0, plain()); a.e != api.OK || len(a.pieces) != 0 {
		t.Error("no time:", a)
	}
	askError(t, "a time below 0", growing().field, points(1), -1, plain(), api.ErrArg)
	a := followed(t, r, someSquares(1), points(1), 2097152, plain())
	if len(a.pieces) == 0 || a.reached() >= 1048576 || !slices.Contains([]api.Errno{api.ErrBound, api.ErrFuel, api.ErrWide}, a.e) {
		t.Error("x' = x x:", a)
	}
	askError(t, "no steps", growing().field, points(1), 1048576, with(6, 0, 10), api.ErrFuel)
}

// wrongTapes may not be.
func wrongTapes() []api.Tape {
	v := variable(0)
	return []api.Tape{
		{Vars: -1},
		{Vars: 65, Ops: []op{v}, Outs: []int{0}},
		{Vars: 1, Outs: []int{0}},
		lastOf(variable(1)),
		lastOf(v, of(api.TNeg, 1)),
		lastOf(v, both(api.TMul, -1, 0)),
		lastOf(v, pow(0, 65)),
		lastOf(v, op{Kind: 0}),
		lastOf(v, op{Kind: 15}),
		lastOf(v, op{Kind: api.TConst, Lit: none}),
		lastOf(v, op{Kind: api.TConst, Lit: iv(2, 1)}),
		{Vars: 1, Ops: []op{v}, Outs: []int{1}},
		{Vars: 1, Ops: slices.Repeat([]op{v}, 4001), Outs: []int{0}},
	}
}

// wrongIntervals may not be; the last one may be, and is empty.
func wrongIntervals() box {
	return box{iv(nan, 1), iv(1, nan), iv(nan, nan), iv(2, 1), iv(minus0, 1), iv(-1, minus0), iv(minus0, minus0), iv(inf, inf), iv(-inf, -inf), iv(1, -inf), iv(inf, 1), none}
}

// boundless ones may be, and are not empty, but not bounded.
func boundless() box { return box{all, iv(0, inf), iv(-inf, 0), iv(greatest, inf)} }

func wrongTimes() []int64 {
	return []int64{-1, -second, math.MinInt64, 1<<40 + 1, 1 << 41, math.MaxInt64}
}

func wrongControls() []control {
	return []control{
		{}, with(0, 100, 10), with(-1, 100, 10), with(20, 100, 10), with(21, 100, 10), with(math.MaxInt, 100, 10), with(math.MinInt, 100, 10),
		with(6, -1, 10), with(6, 20001, 10), with(6, math.MaxInt, 10), with(6, math.MinInt, 10),
		with(6, 100, 0), with(6, 100, minus0), with(6, 100, -least), with(6, 100, -1), with(6, 100, -inf), with(6, 100, nan),
		with(6, 0, 0), with(0, 0, 10),
	}
}

// TestTapesThatMayNotBe is P10.1: that comes ahead of all that is wrong besides.
func TestTapesThatMayNotBe(t *testing.T) {
	for _, tape := range wrongTapes() {
		for _, x := range []box{nil, points(1), points(1, 2), {none}, {all}, {iv(0, 100)}} {
			for _, until := range append(wrongTimes(), 0, second) {
				for _, c := range append(wrongControls(), plain(), with(6, 0, 10)) {
					askError(t, "no tape", tape, x, until, c, api.ErrTape)
				}
			}
		}
	}
}

// TestArguments is P10.1: ErrArg, if only one of all is wrong; ahead of ErrWide, and whether there is time or not.
func TestArguments(t *testing.T) {
	for _, until := range []int64{0, 1, second} {
		for _, c := range []struct{ vars, outs, many int }{
			{0, 0, 0}, {0, 0, 1}, {25, 25, 25}, {64, 64, 64}, {1, 0, 1}, {1, 2, 1}, {2, 1, 2}, {24, 25, 24}, {24, 400, 24}, // no field
			{1, 1, 0}, {1, 1, 2}, {2, 2, 1}, {3, 3, 4}, {24, 24, 23}, {23, 23, 24}, {24, 24, 25}, {24, 24, 0}, // components
		} {
			field := api.Tape{Vars: c.vars, Ops: []op{lit(0)}, Outs: make([]int, c.outs)}
			askError(t, "how many", field, slices.Repeat(points(1), c.many), until, plain(), api.ErrArg)
			askError(t, "how many, and wide", field, slices.Repeat(box{all}, c.many), until, plain(), api.ErrArg)
		}
		for _, wrong := range wrongIntervals() {
			for at := range 3 {
				x := points(1, 2, 3)
				x[at] = wrong
				askError(t, "an interval", atRest(3), x, until, plain(), api.ErrArg)
				x[(at+1)%3] = all
				askError(t, "an interval, and a wide one", atRest(3), x, until, plain(), api.ErrArg)
			}
		}
		for _, x := range []box{points(1), {all}, {iv(0, 100)}} {
			for _, c := range wrongControls() {
				askError(t, "a control", growing().field, x, until, c, api.ErrArg)
			}
		}
	}
	for _, x := range []box{points(1), {all}, {iv(0, 100)}} {
		for _, until := range wrongTimes() {
			askError(t, "a time", growing().field, x, until, plain(), api.ErrArg)
		}
	}
	askError(t, "no box", growing().field, nil, second, plain(), api.ErrArg)
	askError(t, "an empty list", growing().field, box{}, second, plain(), api.ErrArg)
}

// TestControls is P10.1: what just may be is not refused.
func TestControls(t *testing.T) {
	r := chance(92)
	for _, c := range []control{with(1, 100, 10), with(19, 100, 10), with(6, 20000, 10), with(6, 100, inf), with(6, 100, greatest), with(6, 100, 1e-3), with(1, 20000, inf), with(19, 20000, inf)} {
		if a := followed(t, r, steady(1), points(0), second, c); a.e != api.OK {
			t.Errorf("%v: the error %d", c, a.e)
		}
	}
	if a := ask(t, steady(1).field, points(0), second, with(6, 100, least)); a.e != api.OK && a.e != api.ErrWide {
		t.Error("the least width:", a)
	}
}

// TestTooWide is P10.1: boxes that are wider than is allowed, exactly; and such that just are not.
func TestTooWide(t *testing.T) {
	for _, c := range []struct {
		x      api.Ival
		width  float64
		isWide bool
	}{
		{iv(0, 1), 1, false},
		{iv(0, 1), math.Nextafter(1, 0), true},
		{iv(0, math.Nextafter(1, 2)), 1, true},
		{iv(0x1p-60, 1), 1, false},
		{iv(0x1p-60, 1), math.Nextafter(1, 0), true}, // by less than a float's last bit
		{iv(-0x1p-60, 1), 1, true},
		{iv(-0x1p-60, 1), math.Nextafter(1, 2), false},
		{point(5), least, false},
		{iv(0, least), least, false},
		{iv(-least, least), least, true},
		{iv(-greatest, greatest), greatest, true},
		{iv(-greatest, greatest), inf, false},
		{iv(0, greatest), greatest, false},
	} {
		for at := range 3 {
			x := points(1, 2, 3)
			x[at] = c.x
			for _, until := range []int64{0, 1} {
				given := with(2, 50, c.width)
				if c.isWide {
					askError(t, "wide", atRest(3), x, until, given, api.ErrWide)
				} else if a := ask(t, atRest(3), x, until, given); until == 0 && a.e != api.OK {
					t.Errorf("%v is refused beside the width %g: %d", c.x, c.width, a.e)
				}
			}
		}
	}
	for _, wrong := range boundless() {
		for at := range 3 {
			x := points(1, 2, 3)
			x[at] = wrong
			for _, until := range []int64{0, 1, second, 1 << 40} {
				askError(t, "without end", atRest(3), x, until, plain(), api.ErrWide)
				askError(t, "without end", atRest(3), x, until, with(6, 0, inf), api.ErrWide)
			}
		}
	}
}

// TestNoTime is P10.1: no pieces, whatever the field, and whether there are steps or not.
func TestNoTime(t *testing.T) {
	for _, field := range []api.Tape{growing().field, square(), overX(), lastOf(op{Kind: api.TConst, Lit: all})} {
		for _, c := range []control{plain(), with(6, 0, 10), with(1, 20000, inf)} {
			if a := ask(t, field, box{iv(-1, 1)}, 0, c); a.e != api.OK || len(a.pieces) != 0 {
				t.Errorf("%v, %v: %v", field, c, a)
			}
		}
	}
}

// TestTimes is P10.1 of the shortest and the longest times.
func TestTimes(t *testing.T) {
	r := chance(93)
	for _, until := range []int64{1, 2, 3, 5, 1<<16 - 1, 1 << 16, 1<<16 + 1, second - 1, second, second + 1, 3*second + 7} {
		if a := followed(t, r, growing(), points(1), until, with(8, 300, 10000)); a.e != api.OK {
			t.Errorf("up to %d: the error %d", until, a.e)
		}
	}
	for _, until := range []int64{1 << 30, 1<<30 + 1, 1 << 35, 1<<40 - 1, 1 << 40} {
		a := ask(t, steady(3).field, points(1), until, with(3, 20000, 1))
		if a.e != api.OK || !ival.Has(a.last()[0], 1+3*float64(until)/second) {
			t.Errorf("x' = 3 up to %d: %d pieces, the error %d", until, len(a.pieces), a.e)
		}
		if a := ask(t, atRest(4), slices.Repeat(box{iv(-1, 1)}, 4), until, with(1, 20000, 3)); a.e != api.OK {
			t.Errorf("at rest up to %d: the error %d", until, a.e)
		}
	}
}

// TestFewSteps is P10.1: never more pieces than steps, and ErrFuel where there are too few.
func TestFewSteps(t *testing.T) {
	r := chance(94)
	for _, l := range []law{growing(), turning(), someSquares(3), rooted()} {
		x := points(1, 0.5, 0.25)[:l.field.Vars]
		askError(t, "no steps", l.field, x, second, with(8, 0, 10), api.ErrFuel)
		askError(t, "no steps for a tick", l.field, x, 1, with(8, 0, 10), api.ErrFuel)
		for steps := 1; steps <= 12; steps++ {
			a := followed(t, r, l, x, 1<<40, with(8, steps, 1e6))
			if a.e != api.ErrFuel || len(a.pieces) == 0 {
				t.Errorf("%s, %d steps: %d pieces, %d", l.name, steps, len(a.pieces), a.e)
			}
		}
	}
	if a := ask(t, growing().field, points(1), 1, with(8, 1, 10)); a.e != api.OK || len(a.pieces) != 1 {
		t.Error("one step for one tick:", a)
	}
}

// TestManySteps is P10.1 and P10.2 of a field that needs more steps than may be made.
func TestManySteps(t *testing.T) {
	fast := lastOf(variable(0), lit(-1e5), both(api.TMul, 0, 1))
	a := ask(t, fast, points(1), 1<<40, with(2, 20000, 10))
	if a.e != api.ErrFuel || len(a.pieces) < 1000 {
		t.Errorf("%d pieces, %d", len(a.pieces), a.e)
	}
	for _, p := range a.pieces {
		if v := math.Exp(-1e5 * float64(p.To) / second); v > 1e-290 && !ival.Has(ival.Mul(p.End[0], iv(1-1e-9, 1+1e-9)), v) {
			t.Fatalf("%v has not %g", p, v)
		}
	}
}

// TestErrors is P10.1: fields without values, or without bounds, where they begin: no pieces, and why, however few steps there are but one.
func TestErrors(t *testing.T) {
	v := variable(0)
	for _, c := range []struct {
		name  string
		field api.Tape
		x     api.Ival
		want  []api.Errno
	}{
		{"1 / x round 0", overX(), iv(-1, 1), []api.Errno{api.ErrBound, api.ErrDomain}},
		{"1 / x at 0", overX(), point(0), []api.Errno{api.ErrBound, api.ErrDomain}},
		{"1 / x from 0", overX(), iv(0, 1), []api.Errno{api.ErrBound, api.ErrDomain}},
		{"log at 0", lastOf(v, of(api.TLog, 0)), iv(0, 1), []api.Errno{api.ErrBound, api.ErrDomain}},
		{"a root below 0", lastOf(v, of(api.TSqrt, 0)), iv(-1, 1), []api.Errno{api.ErrBound, api.ErrDomain}},
		{"a root of 0", lastOf(v, of(api.TSqrt, 0)), iv(0, 1), []api.Errno{api.ErrBound, api.ErrDomain}},
		{"a power below 0", lastOf(v, pow(0, -2)), iv(-1, 1), []api.Errno{api.ErrBound, api.ErrDomain}},
		{"a rate without end", lastOf(op{Kind: api.TConst, Lit: all}), iv(0, 1), []api.Errno{api.ErrBound, api.ErrWide}},
		{"coefficients beyond floats", lastOf(v, lit(1e200), both(api.TMul, 0, 1)), iv(0, 1), []api.Errno{api.ErrBound, api.ErrWide}},
		{"beyond floats within a tick", lastOf(lit(greatest), lit(1e7), both(api.TMul, 0, 1)), iv(0, 1), []api.Errno{api.ErrBound, api.ErrWide}},
		{"too fast", lastOf(v, lit(1e7), both(api.TMul, 0, 1)), point(1), []api.Errno{api.ErrBound}},
	} {
		for _, order := range []int{1, 6, 19} {
			for _, steps := range []int{2, 100, 20000} {
				if c.name == "too fast" && steps == 2 {
					continue // only tries of all lengths tell that
				}
				pieces, e := chain.Run(c.field, box{c.x}, second, with(order, steps, inf))
				if len(pieces) != 0 || !slices.Contains(c.want, e) {
					t.Errorf("%s, order %d, %d steps: %v, %d, want %v", c.name, order, steps, pieces, e, c.want)
				}
			}
		}
	}
}

// TestAtTheEndOfFloats is P10.1: sets, or what comes of them, for which there are no floats.
func TestAtTheEndOfFloats(t *testing.T) {
	for _, x := range []api.Ival{iv(-greatest, greatest), iv(-greatest, greatest/2), iv(greatest/2, greatest), point(greatest), point(-greatest), iv(0, greatest), iv(-greatest, -least)} {
		for _, field := range []api.Tape{atRest(1), steady(1).field, steady(-greatest).field, steady(greatest).field, growing().field, square(), spreading()} {
			for _, until := range []int64{1, second, 1 << 40} {
				a := ask(t, field, box{x}, until, with(2, 40, inf))
				if a.e == api.OK && slices.Equal(field.Ops, square().Ops) {
					t.Errorf("squares of %v: OK", x)
				}
			}
		}
	}
}

// TestSwells is P10.1 and P10.2: a chain whose Ends become too wide ends with the first such one, ahead of until.
func TestSwells(t *testing.T) {
	for _, width := range []float64{1, 0.75, 2.5} {
		just := int64(width / 2 * second) // at that time it is just so wide
		for _, until := range []int64{just + 1, just + 2, just + 3, just + 1000, 2 * just, 10 * second, 1 << 40} {
			a := ask(t, spreading(), points(0), until, with(3, 200, width))
			isLastWide := len(a.pieces) > 0 && widest(a.last()) > width
			if a.e != api.ErrWide || !isLastWide && a.reached() < until-1 {
				t.Errorf("the width %g, until %d: up to %d, %d; is the last one wide: %v", width, until, a.reached(), a.e, isLastWide)
			}
			for _, p := range a.pieces {
				if to := float64(p.To) / second; !ival.Inside(iv(-to, to), p.End[0]) {
					t.Errorf("%v does not hold all from -%g to it", p, to)
				}
			}
		}
		if a := ask(t, spreading(), points(0), just-1, with(3, 200, width)); a.e != api.OK {
			t.Errorf("the width %g, just not too long: %d", width, a.e)
		}
	}
	askError(t, "too wide at once", growing().field, box{iv(0, 1)}, 1, with(3, 200, 1), api.ErrWide)
}

// TestFunctionOfArguments is R1, R3 and R4.
func TestFunctionOfArguments(t *testing.T) {
	for _, l := range []law{turning(), line(matrix{{0, 0}, {0, 0}}, []float64{0, 0}), seesaw()} {
		x := box{iv(0.5, 0.75), iv(-0.25, 0)}
		kept, ops, outs := slices.Clone(x), slices.Clone(l.field.Ops), slices.Clone(l.field.Outs)
		c := with(5, 60, 10)
		first, again := ask(t, l.field, x, second, c), ask(t, l.field, x, second, c)
		if len(first.pieces) < 2 || first.e != again.e || !slices.EqualFunc(first.pieces, again.pieces, equal) {
			t.Fatal("asked twice:", first, again)
		}
		for i, p := range first.pieces { // one by one: no two lists share any
			if !equal(p, again.pieces[i]) {
				t.Fatal("what was told is changed:", p)
			}
			spoil(p.All)
			if !slices.Equal(p.End, again.pieces[i].End) {
				t.Fatal("an End is its All:", p)
			}
			spoil(p.End)
		}
		if !slices.Equal(x, kept) || !slices.Equal(l.field.Ops, ops) || !slices.Equal(l.field.Outs, outs) {
			t.Error("what was handed in is changed:", x, l.field)
		}
		if third := ask(t, l.field, x, second, c); !slices.EqualFunc(third.pieces, again.pieces, equal) {
			t.Error("something was kept:", third)
		}
	}
}

func equal(p, q api.Seg) bool {
	return p.From == q.From && p.To == q.To && slices.Equal(p.All, q.All) && slices.Equal(p.End, q.End)
}

func spoil(b box) {
	for i := range b {
		b[i] = none
	}
}

// TestFieldsByChance is P1 and P10.1: of operations of all kinds, from boxes of all widths.
func TestFieldsByChance(t *testing.T) {
	r := chance(95)
	seen := tally{}
	for range 800 {
		s := api.Tape{Vars: 1 + r.Intn(4)}
		putVariables(&s)
		for range 1 + r.Intn(10) {
			n := len(s.Ops)
			o := op{Kind: 1 + r.Intn(14), A: r.Intn(n), B: r.Intn(n), N: r.Intn(7) - 3, Lit: ival.Make(eighths(r, 4), 4+r.Float64())}
			if o.Kind == api.TVar {
				o.N = r.Intn(s.Vars)
			}
			put(&s, o)
		}
		var x box
		for range s.Vars {
			s.Outs = append(s.Outs, r.Intn(len(s.Ops)))
			lo := eighths(r, 4)
			x = append(x, ival.Make(lo, lo+math.Ldexp(1, -r.Intn(40))))
		}
		until := 1 + r.Int63n([]int64{3, second, 8 * second, 1 << 40}[r.Intn(4)])
		seen[ask(t, s, x, until, with(1+r.Intn(19), r.Intn(40), []float64{1, 2, 1e9, inf}[r.Intn(4)])).e]++
	}
	seen.wants(t, 10, api.OK, api.ErrFuel, api.ErrWide, api.ErrBound)
}

// TestLongest is P1: as many variables and operations as may be, with functions throughout.
func TestLongest(t *testing.T) {
	s := api.Tape{Vars: api.MaxDim}
	putVariables(&s)
	for len(s.Ops) < api.MaxOps-1 {
		n := len(s.Ops)
		put(&s, both(api.TAdd, n%api.MaxDim, n-1))
		put(&s, of(api.TSin, n))
	}
	for i := range api.MaxDim {
		s.Outs = append(s.Outs, len(s.Ops)-1-i)
	}
	ask(t, s, slices.Repeat(box{iv(0, 0x1p-20)}, api.MaxDim), second, with(1, 3, 10))
}
