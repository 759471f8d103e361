package picard_test

// What bounds, and what the wide box is, by the document's words; fields; solutions that are known exactly.

import (
	"math"
	"math/big"
	"math/rand"
	"slices"
	"testing"

	"orrery/api"
	"orrery/ival"
	"orrery/picard"
	"orrery/tape"
)

var (
	inf      = math.Inf(1)
	nan      = math.NaN()
	minus0   = math.Copysign(0, -1)
	least    = math.SmallestNonzeroFloat64
	greatest = math.MaxFloat64
	none     = api.Ival{Lo: inf, Hi: -inf}
	all      = api.Ival{Lo: -inf, Hi: inf}
)

type (
	box    = []api.Ival
	op     = api.Op
	number = *big.Rat
)

func iv(lo, hi float64) api.Ival { return api.Ival{Lo: lo, Hi: hi} }

func point(v float64) api.Ival { return iv(v, v) }

func points(vs ...float64) box {
	var x box
	for _, v := range vs {
		x = append(x, point(v))
	}
	return x
}

func lit(lo, hi float64) op { return op{Kind: api.TConst, Lit: iv(lo, hi)} }

func variable(n int) op { return op{Kind: api.TVar, N: n} }

func of(kind, a int) op { return op{Kind: kind, A: a} }

func both(kind, a, b int) op { return op{Kind: kind, A: a, B: b} }

func pow(a, n int) op { return op{Kind: api.TPow, A: a, N: n} }

// lastOf is a field of one variable, which goes as its last operation tells.
func lastOf(ops ...op) api.Tape {
	return api.Tape{Vars: 1, Ops: ops, Outs: []int{len(ops) - 1}}
}

// put lays an operation behind those of t, and is its number.
func put(t *api.Tape, o op) int {
	t.Ops = append(t.Ops, o)
	return len(t.Ops) - 1
}

// lineOf is x' = A x + b.
func lineOf(a [][]float64, b []float64) api.Tape {
	t := api.Tape{Vars: len(a)}
	for j := range a {
		put(&t, variable(j))
	}
	for i, row := range a {
		sum := put(&t, lit(b[i], b[i]))
		for j, v := range row {
			sum = put(&t, both(api.TAdd, sum, put(&t, both(api.TMul, put(&t, lit(v, v)), j))))
		}
		t.Outs = append(t.Outs, sum)
	}
	return t
}

// wideBox is the document's.
func wideBox(x box) box {
	var wide box
	for _, v := range x {
		d := ival.Mul(iv(0x1p-4, 0x1p-4), ival.Add(iv(1, 1), point(ival.Mag(v)))).Hi
		wide = append(wide, ival.Hull(v, ival.Add(v, iv(-d, d))))
	}
	return wide
}

// bounds tells whether b bounds x' = s(x) from x for a time, by the document's words.
func bounds(s api.Tape, b, x box, time float64) bool {
	f, e := tape.Eval(s, b)
	if e != api.OK || len(b) != len(x) {
		return false
	}
	for i := range x {
		if !ival.Inside(x[i], b[i]) || !ival.Inside(ival.Add(x[i], ival.Mul(iv(0, time), f[i])), b[i]) {
			return false
		}
	}
	return true
}

func liesIn(x, y box) bool {
	for i := range x {
		if !ival.Inside(x[i], y[i]) {
			return false
		}
	}
	return len(x) == len(y)
}

// isPlain tells whether all ends are in order, none infinite, NAN or -0.
func isPlain(b box) bool {
	for _, v := range b {
		if !ival.Right(v) || math.IsInf(v.Lo, 0) || math.IsInf(v.Hi, 0) {
			return false
		}
	}
	return true
}

// answer is what was told.
type answer struct {
	box box
	e   api.Errno
}

// ask is an answer that holds what P8.1 and P8.2 say of questions that are not refused.
func ask(t *testing.T, s api.Tape, x box, time float64) answer {
	t.Helper()
	b, e := picard.Bound(s, x, time)
	wide := wideBox(x)
	widely := bounds(s, wide, x, time)
	switch {
	case e != api.OK && b != nil:
		t.Errorf("Bound(%v, %v, %g) = %v beside the error %d", s, x, time, b, e)
	case e != api.OK && e != api.ErrBound:
		t.Errorf("Bound(%v, %v, %g): the error %d", s, x, time, e)
	case e == api.ErrBound && widely:
		t.Errorf("Bound(%v, %v, %g): ErrBound, though %v bounds", s, x, time, wide)
	case e == api.OK && (!isPlain(b) || !bounds(s, b, x, time)):
		t.Errorf("Bound(%v, %v, %g) = %v: it does not bound", s, x, time, b)
	case e == api.OK && widely && !liesIn(b, wide):
		t.Errorf("Bound(%v, %v, %g) = %v: it does not lie in %v, which bounds", s, x, time, b, wide)
	}
	return answer{b, e}
}

// askError asks for an error, and nothing beside it.
func askError(t *testing.T, name string, s api.Tape, x box, time float64, want api.Errno) {
	t.Helper()
	if b, e := picard.Bound(s, x, time); e != want || b != nil {
		t.Errorf("%s: Bound(%v, %v, %g) = %v, %d, want the error %d", name, s, x, time, b, e, want)
	}
}

func exactly(v float64) number { return new(big.Rat).SetFloat64(v) }

// holds tells whether a bounded x goes round v.
func holds(x api.Ival, v number) bool {
	return exactly(x.Lo).Cmp(v) <= 0 && exactly(x.Hi).Cmp(v) >= 0
}

func plus(a, b number) number { return new(big.Rat).Add(a, b) }

func minus(a, b number) number { return new(big.Rat).Sub(a, b) }

func times(a, b number) number { return new(big.Rat).Mul(a, b) }

func over(a, b number) number { return new(big.Rat).Quo(a, b) }

func chance(seed int64) *rand.Rand { return rand.New(rand.NewSource(seed)) }

// eighths are from -amount to amount.
func eighths(r *rand.Rand, amount int) float64 {
	return float64(r.Intn(16*amount+1)-8*amount) / 8
}

// someInterval has ends that are eighths, or, now and then, some that are near to one; some have one number.
func someInterval(r *rand.Rand, amount int) api.Ival {
	a, b := eighths(r, amount), eighths(r, amount)
	switch r.Intn(10) {
	case 0, 1:
		b = a
	case 2:
		b = math.Nextafter(a, inf)
	case 3, 4, 5:
		b = a + []float64{0x1p-30, 0.01, 0.25, 0.5}[r.Intn(4)]
	case 6:
		a = math.Nextafter(a, -inf)
	}
	return iv(min(a, b), max(a, b))
}

func someBox(r *rand.Rand, many, amount int) box {
	var x box
	for range many {
		x = append(x, someInterval(r, amount))
	}
	return x
}

// someWithin is a box in x.
func someWithin(r *rand.Rand, x box) box {
	var y box
	for _, v := range x {
		a, b := someIn(r, v), someIn(r, v)
		y = append(y, iv(min(a, b), max(a, b)))
	}
	return y
}

// someIn is a float in a bounded interval: an end, or one between.
func someIn(r *rand.Rand, x api.Ival) float64 {
	switch r.Intn(4) {
	case 0:
		return x.Lo
	case 1:
		return x.Hi
	}
	v := min(x.Hi, max(x.Lo, x.Lo+r.Float64()*(x.Hi-x.Lo)))
	return v + 0 // not -0
}

// someOp takes any kind that can stand there.
func someOp(r *rand.Rand, kinds, place, vars int) op {
	o := op{Kind: api.TVar + r.Intn(kinds-1), A: r.Intn(place), B: max(0, place-1-r.Intn(4)), N: r.Intn(7) - 3}
	if r.Intn(6) == 0 {
		o = op{Kind: api.TConst, Lit: someInterval(r, 2)}
	}
	if r.Intn(2) == 0 && o.Kind != api.TConst {
		o.A, o.B = o.B, o.A
	}
	if o.Kind == api.TVar {
		o.N = r.Intn(vars)
	}
	return o
}

// someField has all variables first, and tells its last operations.
func someField(r *rand.Rand, kinds, vars, many int) api.Tape {
	s := api.Tape{Vars: vars}
	for j := range vars {
		put(&s, variable(j))
	}
	for range many {
		put(&s, someOp(r, kinds, len(s.Ops), vars))
	}
	for i := range vars {
		s.Outs = append(s.Outs, len(s.Ops)-1-i)
	}
	return s
}

// someTime is most often short enough for fields by chance.
func someTime(r *rand.Rand) float64 {
	switch r.Intn(8) {
	case 0:
		return 0
	case 1:
		return []float64{least, 0x1p-1022, 0x1p-60, 1, 16, 0x1p20, math.Nextafter(0x1p20, 0)}[r.Intn(7)]
	}
	return math.Ldexp(r.Float64(), -r.Intn(10))
}

// tally counts errors, so that a test sees whether it asked what it was to ask.
type tally map[api.Errno]int

func (c tally) wants(t *testing.T, many int, es ...api.Errno) {
	t.Helper()
	for _, e := range es {
		if c[e] < many {
			t.Errorf("only %d answers were %d: %v", c[e], e, c)
		}
	}
}

// wrongTapes may not be.
func wrongTapes() []api.Tape {
	v := variable(0)
	return []api.Tape{
		{Vars: -1},
		{Vars: 65, Ops: []op{v}, Outs: []int{0}},
		{Vars: 1, Outs: []int{0}},
		lastOf(variable(1)),
		lastOf(variable(-1)),
		{Vars: 0, Ops: []op{v}, Outs: []int{0}},
		lastOf(v, of(api.TNeg, 1)),
		lastOf(v, both(api.TAdd, 0, 1)),
		lastOf(v, both(api.TMul, -1, 0)),
		lastOf(v, pow(0, 65)),
		lastOf(v, pow(0, -65)),
		lastOf(v, op{Kind: 0}),
		lastOf(v, op{Kind: 15}),
		lastOf(v, op{Kind: api.TConst, Lit: none}),
		lastOf(v, lit(2, 1)),
		lastOf(v, lit(nan, 1)),
		lastOf(v, lit(minus0, 1)),
		{Vars: 1, Ops: []op{v}, Outs: []int{1}},
		{Vars: 1, Ops: []op{v}, Outs: []int{-1}},
		{Vars: 1, Ops: slices.Repeat([]op{v}, 4001), Outs: []int{0}},
		{Vars: 1, Ops: []op{v}, Outs: make([]int, 401)},
	}
}

// wrongIntervals may not be; the last one may be, and is empty.
func wrongIntervals() box {
	return box{iv(nan, 1), iv(1, nan), iv(nan, nan), iv(2, 1), iv(minus0, 1), iv(-1, minus0), iv(minus0, minus0), iv(inf, inf), iv(-inf, -inf), iv(1, -inf), iv(inf, 1), none}
}

// boundless ones may be, and are not empty, but not bounded.
func boundless() box { return box{all, iv(0, inf), iv(-inf, 0), iv(greatest, inf)} }

// wrongTimes are not from 0 to 2^20.
func wrongTimes() []float64 {
	return []float64{-1, -least, math.Nextafter(0x1p20, inf), 0x1p21, greatest, -greatest, inf, -inf, nan}
}
