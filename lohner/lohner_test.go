package lohner_test

import (
	"math"
	"slices"
	"testing"

	"orrery/api"
	"orrery/ival"
	"orrery/lohner"
)

func constant(v float64) api.Tape { return lastOf(lit(v)) }

// atRest is a field of so many variables that do not go.
func atRest(vars int) api.Tape {
	return api.Tape{Vars: vars, Ops: []op{lit(0)}, Outs: make([]int, vars)}
}

func one(many int) matrix {
	m := make(matrix, many)
	for i := range m {
		m[i] = make([]float64, many)
		m[i][i] = 1
	}
	return m
}

// plainSet has so many components, all from -1 to 1.
func plainSet(many int) api.Set {
	return api.Set{C: make([]float64, many), A: one(many), R: slices.Repeat(box{iv(-1, 1)}, many)}
}

// copyOf shares nothing with s.
func copyOf(s api.Set) api.Set {
	c := api.Set{C: slices.Clone(s.C), R: slices.Clone(s.R), A: slices.Clone(s.A)}
	for i := range c.A {
		c.A[i] = slices.Clone(c.A[i])
	}
	return c
}

func equal(s, u api.Set) bool {
	return slices.Equal(s.C, u.C) && slices.Equal(s.R, u.R) && slices.EqualFunc(s.A, u.A, slices.Equal)
}

// TestExamples has all rows of the chapter's examples.
func TestExamples(t *testing.T) {
	s := newOf(t, box{iv(1, 3), iv(0, 0)})
	if !equal(s, api.Set{C: []float64{2, 0}, A: one(2), R: box{iv(-1, 1), iv(0, 0)}}) {
		t.Error("New:", s)
	}
	if b := boxOf(t, s); !slices.Equal(b, box{iv(1, 3), iv(0, 0)}) {
		t.Error("Box:", b)
	}
	a := ask(t, constant(1), newOf(t, points(0)), 0.25, 3)
	if a.e != api.OK || !ival.Has(boxOf(t, a.set)[0], 0.25) || !ival.Inside(iv(0, 0.25), a.box[0]) {
		t.Error("x' = 1:", a)
	}
	askError(t, "x' = x x", square(), newOf(t, points(1)), 2, 3, api.ErrBound)
}

// wrongIntervals may not be; the last one may be, and is empty.
func wrongIntervals() box {
	return box{iv(nan, 1), iv(1, nan), iv(nan, nan), iv(2, 1), iv(minus0, 1), iv(-1, minus0), iv(minus0, minus0), iv(inf, inf), iv(-inf, -inf), iv(1, -inf), iv(inf, 1), none}
}

// boundless ones may be, and are not empty, but not bounded.
func boundless() box { return box{all, iv(0, inf), iv(-inf, 0), iv(greatest, inf)} }

// wrongSets are named; each may not be for one reason.
func wrongSets() map[string]api.Set {
	wrong := map[string]api.Set{
		"nothing":        {},
		"empty lists":    {C: []float64{}, A: matrix{}, R: box{}},
		"25":             plainSet(25),
		"100":            plainSet(100),
		"no A":           {C: []float64{0}, R: points(0)},
		"no R":           {C: []float64{0}, A: one(1)},
		"no C":           {A: one(1), R: points(0)},
		"more in C":      {C: []float64{0, 0}, A: one(1), R: points(0)},
		"more in R":      {C: []float64{0}, A: one(1), R: points(0, 0)},
		"more rows":      {C: []float64{0}, A: matrix{{1}, {1}}, R: points(0)},
		"longer rows":    {C: []float64{0}, A: matrix{{1, 0}}, R: points(0)},
		"a nil row":      {C: []float64{0}, A: matrix{nil}, R: points(0)},
		"a short row":    {C: []float64{0, 0}, A: matrix{{1, 0}, {1}}, R: points(0, 0)},
		"a long row":     {C: []float64{0, 0}, A: matrix{{1, 0}, {1, 0, 0}}, R: points(0, 0)},
		"a short first":  {C: []float64{0, 0}, A: matrix{{1}, {1, 0}}, R: points(0, 0)},
		"few, all short": {C: []float64{0, 0}, A: matrix{{1}, {1}}, R: points(0, 0)},
	}
	for name, v := range map[string]float64{"NAN": nan, "+Inf": inf, "-Inf": -inf} {
		for at, place := range []string{" first", " in the middle", " last"} {
			s := plainSet(3)
			s.C[at] = v
			wrong[name+place+" of C"] = s
			s = plainSet(3)
			s.A[at][2-at] = v
			wrong[name+place+" of A"] = s
			s = plainSet(3)
			s.A[at][at] = v
			wrong[name+place+" on the diagonal"] = s
		}
	}
	return wrong
}

// wrongRests are R's components that may not be in a set.
func wrongRests() box { return append(wrongIntervals(), boundless()...) }

// TestRight is P9.1 of sets that may be, and of all that may not.
func TestRight(t *testing.T) {
	for many := 1; many <= api.MaxDim; many++ {
		if s := plainSet(many); !lohner.Right(s) {
			t.Error("may be:", s)
		}
	}
	for _, v := range []float64{0, minus0, least, -least, greatest, -greatest} {
		s := plainSet(2)
		s.C[1], s.A[0][1], s.A[1][0] = v, v, v
		s.R[1] = iv(-greatest, greatest)
		if !lohner.Right(s) {
			t.Error("may be:", s)
		}
	}
	for name, s := range wrongSets() {
		if lohner.Right(s) {
			t.Error(name, "may not be:", s)
		}
		if b, e := lohner.Box(s); e != api.ErrArg || b != nil {
			t.Errorf("%s: Box(%v) = %v, %d", name, s, b, e)
		}
	}
	for _, wrong := range wrongRests() {
		for at := range 3 {
			s := plainSet(3)
			s.R[at] = wrong
			b, e := lohner.Box(s)
			if lohner.Right(s) || e != api.ErrArg || b != nil {
				t.Errorf("may not be: %v, of the box %v, %d", s, b, e)
			}
		}
	}
}

// TestNew is P9.1: the document's words.
func TestNew(t *testing.T) {
	r := chance(98)
	for n := range 2000 {
		var x box
		for range 1 + n%api.MaxDim {
			lo := eighths(r, 8) * math.Ldexp(1+r.Float64(), r.Intn(100)-50)
			x = append(x, ival.Make(lo, lo+[]float64{0, r.Float64(), math.Abs(lo)}[r.Intn(3)]))
		}
		want := api.Set{A: one(len(x))}
		for _, v := range x {
			c := ival.Mid(v)
			want.C = append(want.C, c)
			want.R = append(want.R, ival.Sub(v, point(c)))
		}
		if s := newOf(t, x); !equal(s, want) || !lohner.Right(s) {
			t.Errorf("New(%v) = %v, want %v", x, s, want)
		}
	}
}

// TestNewAtTheEnds is P9.1 of the longest intervals.
func TestNewAtTheEnds(t *testing.T) {
	for _, v := range []api.Ival{iv(-greatest, greatest), iv(-greatest, math.Nextafter(greatest, 0)), iv(-greatest, greatest/2), iv(greatest/2, greatest), iv(greatest, greatest), iv(-greatest, 0), iv(-least, least), iv(0, least), iv(-greatest, -least)} {
		s := newOf(t, box{v, iv(0, 0)})
		c := ival.Mid(v)
		if !lohner.Right(s) || s.C[0] != c || s.R[0] != ival.Sub(v, point(c)) || s.C[1] != 0 {
			t.Errorf("New of %v: %v", v, s)
		}
		b, e := lohner.Box(s)
		if e == api.OK && !ival.Inside(v, b[0]) || e != api.OK && (e != api.ErrWide || b != nil) {
			t.Errorf("Box of %v: %v, %d", s, b, e)
		}
	}
}

// TestNewRefuses is P9.1: ErrArg ahead of ErrWide.
func TestNewRefuses(t *testing.T) {
	refuse := func(x box, want api.Errno) {
		t.Helper()
		if s, e := lohner.New(x); e != want || !isNothing(s, nil) {
			t.Errorf("New(%v) = %v, %d, want the error %d", x, s, e, want)
		}
	}
	for _, many := range []int{0, 25, 26, 1000} {
		refuse(slices.Repeat(points(1), many), api.ErrArg)
		refuse(slices.Repeat(box{all}, many), api.ErrArg)
	}
	refuse(nil, api.ErrArg)
	for at := range 3 {
		for _, wrong := range wrongIntervals() {
			x := points(1, 2, 3)
			x[at] = wrong
			refuse(x, api.ErrArg)
			x[(at+1)%3] = all
			refuse(x, api.ErrArg)
		}
		for _, wrong := range boundless() {
			x := points(1, 2, 3)
			x[at] = wrong
			refuse(x, api.ErrWide)
		}
	}
	for _, many := range []int{1, 24} {
		newOf(t, slices.Repeat(points(1), many))
	}
}

// boxByWords is the document's: to {0, 0} the products are added, then to that the middle.
func boxByWords(s api.Set) box {
	var b box
	for i, row := range s.A {
		sum := point(0)
		for j, v := range row {
			sum = ival.Add(sum, ival.Mul(ival.Point(v), s.R[j]))
		}
		b = append(b, ival.Add(ival.Point(s.C[i]), sum))
	}
	return b
}

// TestBox is P9.1, bit by bit; and that members lie in it.
func TestBox(t *testing.T) {
	r := chance(99)
	for n := range 3000 {
		var c []float64
		for range 1 + n%6 {
			c = append(c, 8*r.Float64()-4)
		}
		s := someSet(r, c, math.Ldexp(1, r.Intn(40)-20))
		b := boxOf(t, s)
		if !slices.Equal(b, boxByWords(s)) {
			t.Errorf("Box(%v) = %v, want %v", s, b, boxByWords(s))
		}
		if v := someMember(r, s); !holds(b, v) {
			t.Errorf("Box(%v) = %v, which does not hold %v", s, b, v)
		}
	}
	large := plainSet(api.MaxDim)
	for i := range large.A {
		large.C[i] = float64(i)
		large.A[i] = slices.Repeat([]float64{0.1 + float64(i)}, api.MaxDim)
	}
	if b := boxOf(t, large); !slices.Equal(b, boxByWords(large)) {
		t.Error("24 components:", b)
	}
}

// setsWithoutEnd may be, but their boxes have an infinite end.
func setsWithoutEnd() []api.Set {
	far := plainSet(2)
	far.C[0], far.R[0] = greatest, iv(0, greatest)
	long := plainSet(2)
	long.A[1][0], long.R[0] = greatest, iv(-2, 0)
	many := plainSet(2)
	many.A[0], many.R = []float64{1, 1}, box{iv(0, greatest), iv(0, greatest)}
	return []api.Set{far, long, many}
}

// TestBoxesWithoutEnd is P9.1.
func TestBoxesWithoutEnd(t *testing.T) {
	for _, s := range setsWithoutEnd() {
		if b, e := lohner.Box(s); !lohner.Right(s) || e != api.ErrWide || b != nil {
			t.Errorf("Box(%v) = %v, %d", s, b, e)
		}
	}
	just := plainSet(1)
	just.C[0], just.R[0] = greatest, iv(-greatest, 0)
	if b := boxOf(t, just); b[0] != iv(0, greatest) {
		t.Error("up to the greatest float:", b)
	}
}

// wrongTapes may not be.
func wrongTapes() []api.Tape {
	v := variable(0)
	return []api.Tape{
		{Vars: -1},
		{Vars: 65, Ops: []op{v}, Outs: []int{0}},
		{Vars: 1, Outs: []int{0}},
		lastOf(variable(1)),
		lastOf(v, of(api.TNeg, 1)),
		lastOf(v, both(api.TMul, -1, 0)),
		lastOf(v, pow(0, 65)),
		lastOf(v, op{Kind: 0}),
		lastOf(v, op{Kind: 15}),
		lastOf(v, op{Kind: api.TConst, Lit: none}),
		lastOf(v, op{Kind: api.TConst, Lit: iv(2, 1)}),
		{Vars: 1, Ops: []op{v}, Outs: []int{1}},
		{Vars: 1, Ops: slices.Repeat([]op{v}, 4001), Outs: []int{0}},
	}
}

// wrongTimes are not above 0, or above 2^10.
func wrongTimes() []float64 {
	return []float64{0, minus0, -least, -1, -0x1p10, math.Nextafter(0x1p10, inf), 0x1p11, 0x1p20, greatest, inf, -inf, nan}
}

func wrongOrders() []int { return []int{0, -1, 20, 21, math.MaxInt, math.MinInt} }

// TestTapesThatMayNotBe is P9.2: that comes ahead of all that is wrong besides.
func TestTapesThatMayNotBe(t *testing.T) {
	sets := append(setsWithoutEnd(), plainSet(1), plainSet(2), api.Set{}, plainSet(25))
	for _, tape := range wrongTapes() {
		for _, s := range sets {
			for _, time := range append(wrongTimes(), 0.125) {
				for _, order := range []int{0, 3, 20} {
					askError(t, "no tape", tape, s, time, order, api.ErrTape)
				}
			}
		}
	}
}

// TestArgumentsOfSteps is P9.2: ErrArg, if only one of all is wrong.
func TestArgumentsOfSteps(t *testing.T) {
	for _, c := range []struct{ vars, outs, many int }{
		{0, 0, 0}, {0, 0, 1}, {25, 25, 25}, {64, 64, 64}, {1, 0, 1}, {1, 2, 1}, {2, 1, 2}, {24, 25, 24}, {24, 400, 24}, // no field
		{1, 1, 2}, {2, 2, 1}, {3, 3, 4}, {24, 24, 23}, {23, 23, 24}, {1, 1, 25}, {25, 25, 24}, {24, 24, 0}, // components
	} {
		field := api.Tape{Vars: c.vars, Ops: []op{lit(0)}, Outs: make([]int, c.outs)}
		askError(t, "how many", field, plainSet(c.many), 0.125, 3, api.ErrArg)
	}
	for name, s := range wrongSets() {
		askError(t, name, atRest(min(64, len(s.C))), s, 0.125, 3, api.ErrArg)
		askError(t, name, atRest(1), s, 0.125, 3, api.ErrArg)
		askError(t, name, atRest(3), s, 0.125, 3, api.ErrArg)
	}
	for _, wrong := range wrongRests() {
		s := plainSet(2)
		s.R[1] = wrong
		askError(t, "R", atRest(2), s, 0.125, 3, api.ErrArg)
	}
	for _, s := range append(setsWithoutEnd(), plainSet(2)) { // ErrWide comes behind
		for _, time := range wrongTimes() {
			askError(t, "no time", atRest(2), s, time, 3, api.ErrArg)
		}
		for _, order := range wrongOrders() {
			askError(t, "no order", atRest(2), s, 0.125, order, api.ErrArg)
		}
		for _, n := range []int{1, 3} {
			askError(t, "components", atRest(n), s, 0.125, 3, api.ErrArg)
			askError(t, "no field", api.Tape{Vars: 2, Ops: []op{lit(0)}, Outs: make([]int, n)}, s, 0.125, 3, api.ErrArg)
		}
	}
}

// TestStepsFromWithoutEnd is P9.2: as Box, whatever the field makes of it.
func TestStepsFromWithoutEnd(t *testing.T) {
	outside := api.Tape{Vars: 2, Ops: []op{lit(-1), of(api.TSqrt, 0)}, Outs: []int{1, 1}}
	for _, s := range setsWithoutEnd() {
		for _, time := range []float64{least, 0.125, 0x1p10} {
			for _, order := range []int{1, 19} {
				askError(t, "without end", atRest(2), s, time, order, api.ErrWide)
				askError(t, "without end", turn(), s, time, order, api.ErrWide)
				askError(t, "without end", outside, s, time, order, api.ErrWide)
			}
		}
	}
}

// TestTimesAndOrders is P9.2 at the edges of what may be.
func TestTimesAndOrders(t *testing.T) {
	r := chance(100)
	goes := law{"x' = 3", constant(3), func(v place, h number) place { return place{plus(v[0], times(num(3), h))} }}
	for _, time := range []float64{least, 0x1p-1022, 0x1p-60, 0x1p-20, 0.125, 1, 1000, math.Nextafter(0x1p10, 0), 0x1p10} {
		for order := 1; order <= 19; order++ {
			if a := followed(t, r, goes, newOf(t, box{iv(1, 2)}), time, order); a.e != api.OK {
				t.Errorf("x' = 3 for %g at the order %d: the error %d", time, order, a.e)
			}
			rest := law{"at rest", atRest(24), func(v place, h number) place { return v }}
			if a := followed(t, r, rest, plainSet(24), time, order); a.e != api.OK {
				t.Errorf("at rest for %g at the order %d: the error %d", time, order, a.e)
			}
		}
	}
}

// TestErrors is P9.2: fields that leave no bounded box, have no values, or have coefficients beyond floats.
func TestErrors(t *testing.T) {
	v := variable(0)
	overX := lastOf(lit(1), v, both(api.TDiv, 0, 1))
	rootX := lastOf(v, of(api.TSqrt, 0))
	for _, c := range []struct {
		name string
		s    api.Tape
		x    api.Ival
		time float64
		want []api.Errno
	}{
		{"x x, long", square(), iv(0.5, 1), 2, []api.Errno{api.ErrBound}},
		{"x x, as long as may be", square(), iv(-1, 1), 0x1p10, []api.Errno{api.ErrBound}},
		{"1 / x round 0", overX, iv(-1, 1), 0x1p-30, []api.Errno{api.ErrBound}},
		{"1 / x at 0", overX, iv(0, 0), 0x1p-30, []api.Errno{api.ErrBound}},
		{"log at 0", lastOf(v, of(api.TLog, 0)), iv(0, 1), 0x1p-30, []api.Errno{api.ErrBound}},
		{"a root below 0", rootX, iv(-1, 1), 0x1p-30, []api.Errno{api.ErrBound}},
		{"a root of 0", rootX, iv(0, 1), 0x1p-30, []api.Errno{api.ErrDomain}}, // it has rates there, but no series
		{"a rate without end", lastOf(op{Kind: api.TConst, Lit: all}), iv(0, 1), 0x1p-30, []api.Errno{api.ErrBound}},
		{"a rate without end, that nobody needs", api.Tape{Vars: 1, Ops: []op{v, {Kind: api.TConst, Lit: iv(0, inf)}}, Outs: []int{0}}, iv(0, 1), 0x1p-30, []api.Errno{api.ErrBound}},
		{"coefficients beyond floats", lastOf(v, lit(1e200), both(api.TMul, 0, 1)), iv(0, 1), 0x1p-700, []api.Errno{api.ErrWide}},
		{"beyond floats", constant(greatest), iv(0, 1), 2, []api.Errno{api.ErrBound, api.ErrWide}},
	} {
		for _, order := range []int{1, 3, 19} {
			a := ask(t, c.s, newOf(t, box{c.x}), c.time, order)
			if !slices.Contains(c.want, a.e) {
				t.Errorf("%s at the order %d: %v, want %v", c.name, order, a, c.want)
			}
		}
	}
}

// TestMiddleOutside: C is no member of the set, and the field has no value there, though it has on all of the set.
func TestMiddleOutside(t *testing.T) {
	s := api.Set{C: []float64{-1}, A: one(1), R: box{iv(2, 3)}}
	if a := ask(t, lastOf(variable(0), of(api.TLog, 0)), s, 0x1p-10, 3); a.e != api.ErrDomain {
		t.Error("log:", a)
	}
	between := api.Set{C: []float64{-1}, A: one(1), R: box{iv(2, 3)}} // 1 / x has values at C, but not on all between
	if a := ask(t, lastOf(lit(1), variable(0), both(api.TDiv, 0, 1)), between, 0x1p-10, 3); a.e != api.ErrDomain {
		t.Error("1 / x:", a)
	}
}

// TestAtTheEndOfFloats is P1 and P9.2 of sets whose parts are as long as may be.
func TestAtTheEndOfFloats(t *testing.T) {
	r := chance(101)
	rest := law{"at rest", atRest(2), func(v place, h number) place { return v }}
	for _, long := range []float64{greatest, greatest / 2, greatest / 4, 1e300, 1e160, 1, 1e-160, 1e-300, least, 0} {
		for _, edge := range []float64{greatest, greatest / 2, greatest / 4, 1e300, 1e160, 1, 1e-160, 1e-300, least, 0} {
			for _, c := range []float64{0, long / 2, -greatest, 1} {
				s := api.Set{C: []float64{c, -c}, A: matrix{{edge, 0}, {edge, -edge}}, R: box{iv(-long, long), iv(0, long)}}
				if _, e := lohner.Box(s); e != api.OK {
					continue
				}
				ask(t, turn(), s, 0x1p-4, 3)
				if long < 1e150 && edge < 1e150 { // else 400 bits are too few
					followed(t, r, rest, s, 1, 2)
				}
				ask(t, rest.field, s, 1, 2)
			}
		}
	}
}

// TestFunctionOfArguments is R1, R3 and R4.
func TestFunctionOfArguments(t *testing.T) {
	for _, field := range []api.Tape{turn(), atRest(2)} {
		s := api.Set{C: []float64{1, 2}, A: matrix{{1, 0.5}, {0, 1}}, R: box{iv(-0.25, 0.5), iv(0, 0.125)}}
		kept, ops, outs := copyOf(s), slices.Clone(field.Ops), slices.Clone(field.Outs)
		first, again := ask(t, field, s, 0.125, 4), ask(t, field, s, 0.125, 4)
		if first.e != api.OK || first.e != again.e || !equal(first.set, again.set) || !slices.Equal(first.box, again.box) {
			t.Fatal("asked twice:", first, again)
		}
		set, way := copyOf(again.set), slices.Clone(again.box)
		spoil(first.set, first.box)
		if !equal(s, kept) || !slices.Equal(field.Ops, ops) || !slices.Equal(field.Outs, outs) || !equal(again.set, set) || !slices.Equal(again.box, way) {
			t.Error("what was handed in, or told, is changed:", s, again)
		}
	}
	x := box{iv(1, 3), iv(0, 1)}
	s := newOf(t, x)
	b := boxOf(t, s)
	if kept := copyOf(s); !slices.Equal(b, x) || !equal(s, kept) {
		t.Error("Box:", b)
	}
	spoil(api.Set{}, b)
	if !equal(s, newOf(t, x)) {
		t.Error("Box shares:", s)
	}
	spoil(s, nil)
	if !slices.Equal(x, box{iv(1, 3), iv(0, 1)}) {
		t.Error("New shares:", x)
	}
}

// spoil overwrites all, one by one: no two lists of an answer share any.
func spoil(s api.Set, b box) {
	for i := range s.C {
		s.C[i] = nan
		s.R[i] = none
		for j := range s.A[i] {
			s.A[i][j] = nan
		}
	}
	for i := range b {
		b[i] = none
	}
}

// TestLongest is P1: as many variables and operations as may be, with functions throughout.
func TestLongest(t *testing.T) {
	s := api.Tape{Vars: api.MaxDim}
	putVariables(&s)
	for len(s.Ops) < api.MaxOps-1 {
		n := len(s.Ops)
		put(&s, both(api.TAdd, n%api.MaxDim, n-1))
		put(&s, of(api.TSin, n))
	}
	for i := range api.MaxDim {
		s.Outs = append(s.Outs, len(s.Ops)-1-i)
	}
	for _, width := range []float64{1, 0x1p-20} {
		ask(t, s, newOf(t, slices.Repeat(box{iv(0, width)}, api.MaxDim)), 0x1p-10, 2)
	}
}
