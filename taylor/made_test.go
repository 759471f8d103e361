package taylor_test

// How the tests make tapes, boxes and numbers.

import (
	"math"
	"math/big"
	"math/rand"
	"slices"

	"orrery/api"
)

var (
	inf      = math.Inf(1)
	nan      = math.NaN()
	minus0   = math.Copysign(0, -1)
	least    = math.SmallestNonzeroFloat64
	greatest = math.MaxFloat64
	none     = api.Ival{Lo: inf, Hi: -inf}
	all      = api.Ival{Lo: -inf, Hi: inf}
)

type (
	box    = []api.Ival
	op     = api.Op
	number = *big.Rat
)

func iv(lo, hi float64) api.Ival { return api.Ival{Lo: lo, Hi: hi} }

func point(v float64) api.Ival { return iv(v, v) }

func points(vs ...float64) box {
	var x box
	for _, v := range vs {
		x = append(x, point(v))
	}
	return x
}

func lit(lo, hi float64) op { return op{Kind: api.TConst, Lit: iv(lo, hi)} }

func variable(n int) op { return op{Kind: api.TVar, N: n} }

func of(kind, a int) op { return op{Kind: kind, A: a} }

func both(kind, a, b int) op { return op{Kind: kind, A: a, B: b} }

func pow(a, n int) op { return op{Kind: api.TPow, A: a, N: n} }

// lastOf is a field of one variable, which goes as fast as the last operation tells.
func lastOf(ops ...op) api.Tape {
	return api.Tape{Vars: 1, Ops: ops, Outs: []int{len(ops) - 1}}
}

// alongTime is a field of two variables: the time, which is the operation 0, and what goes as fast as the last operation tells.
func alongTime(ops ...op) api.Tape {
	ops = append([]op{variable(0), lit(1, 1)}, ops...)
	return api.Tape{Vars: 2, Ops: ops, Outs: []int{1, len(ops) - 1}}
}

func needsA(kind int) bool { return kind != api.TConst && kind != api.TVar }

func needsB(kind int) bool {
	return slices.Contains([]int{api.TAdd, api.TSub, api.TMul, api.TDiv}, kind)
}

func needsN(kind int) bool { return kind == api.TVar || kind == api.TPow }

// wrongIntervals may not be.
func wrongIntervals() box {
	return box{iv(nan, 1), iv(1, nan), iv(nan, nan), iv(2, 1), iv(minus0, 1), iv(-1, minus0), iv(minus0, minus0), iv(inf, inf), iv(-inf, -inf), iv(1, -inf), iv(inf, 1)}
}

func chance(seed int64) *rand.Rand { return rand.New(rand.NewSource(seed)) }

func kindsUpTo(last int) []int {
	var kinds []int
	for k := api.TConst; k <= last; k++ {
		kinds = append(kinds, k)
	}
	return kinds
}

// someInterval is near to the numbers from -3 to 3; some have one number, few are wide.
func someInterval(r *rand.Rand) api.Ival {
	a := float64(r.Intn(49)-24) / 8
	width := []float64{0, 0, 0, 0x1p-20, 0x1p-10, 0x1p-6, 0.125, 1}[r.Intn(8)]
	return iv(a, a+width)
}

func someBox(r *rand.Rand, many int) box {
	var x box
	for range many {
		x = append(x, someInterval(r))
	}
	return x
}

// someOp takes an operation of one of the kinds that can stand there.
func someOp(r *rand.Rand, kinds []int, place, vars, power int) op {
	for {
		o := op{Kind: kinds[r.Intn(len(kinds))]}
		if needsA(o.Kind) && place == 0 {
			continue
		}
		if place > 0 {
			o.A, o.B = r.Intn(place), max(0, place-1-r.Intn(4))
			if r.Intn(2) == 0 {
				o.A, o.B = o.B, o.A
			}
		}
		switch o.Kind {
		case api.TVar:
			o.N = r.Intn(vars)
		case api.TPow:
			o.N = r.Intn(2*power+1) - power
		case api.TConst:
			o.Lit = someInterval(r)
		}
		return o
	}
}

// someField has all its variables first.
func someField(r *rand.Rand, kinds []int, vars, more, power int) api.Tape {
	t := api.Tape{Vars: vars}
	for i := range vars + more {
		if i < vars {
			t.Ops = append(t.Ops, variable(i))
			continue
		}
		t.Ops = append(t.Ops, someOp(r, kinds, i, vars, power))
	}
	for range vars {
		t.Outs = append(t.Outs, max(0, len(t.Ops)-1-r.Intn(3)))
	}
	return t
}

// withJunk is the same tape with anything in the fields that are not needed.
func withJunk(r *rand.Rand, t api.Tape) api.Tape {
	junk := []int{-1, 0, 1, 3999, 4000, 65, math.MaxInt, math.MinInt}
	lits := append(wrongIntervals(), none, all, point(0))
	out := api.Tape{Vars: t.Vars, Ops: slices.Clone(t.Ops), Outs: slices.Clone(t.Outs)}
	for i := range out.Ops {
		o := &out.Ops[i]
		if !needsA(o.Kind) {
			o.A = junk[r.Intn(len(junk))]
		}
		if !needsB(o.Kind) {
			o.B = junk[r.Intn(len(junk))]
		}
		if !needsN(o.Kind) {
			o.N = junk[r.Intn(len(junk))]
		}
		if o.Kind != api.TConst {
			o.Lit = lits[r.Intn(len(lits))]
		}
	}
	return out
}

// someIn is a float that a bounded x holds, an end among them, of few bits where x's ends are.
func someIn(r *rand.Rand, x api.Ival) float64 {
	v := x.Lo + float64(r.Intn(9))/8*(x.Hi-x.Lo)
	return min(max(v, x.Lo), x.Hi)
}

func someInAll(r *rand.Rand, x box) []float64 {
	var p []float64
	for _, v := range x {
		p = append(p, someIn(r, v))
	}
	return p
}

// someLits has a number for each operation, of those in its Lit if it is a TConst.
func someLits(r *rand.Rand, t api.Tape) []float64 {
	lits := make([]float64, len(t.Ops))
	for i, o := range t.Ops {
		if o.Kind == api.TConst {
			lits[i] = someIn(r, o.Lit)
		}
	}
	return lits
}

// someWithin is an interval in x.
func someWithin(r *rand.Rand, x api.Ival) api.Ival {
	a, b := someIn(r, x), someIn(r, x)
	return iv(min(a, b), max(a, b))
}

func exactly(v float64) number { return new(big.Rat).SetFloat64(v) }

func allExactly(p []float64) []number {
	var out []number
	for _, v := range p {
		out = append(out, exactly(v))
	}
	return out
}

// holds tells whether a bounded x goes round v.
func holds(x api.Ival, v number) bool {
	return exactly(x.Lo).Cmp(v) <= 0 && exactly(x.Hi).Cmp(v) >= 0
}

// nearlyHeld leaves some room, as floats are rounded.
func nearlyHeld(x api.Ival, v float64) bool {
	room := 1e-8 * max(1, math.Abs(v))
	return x.Lo-room <= v && v <= x.Hi+room
}

func sameRows(a, b []box) bool {
	return slices.EqualFunc(a, b, func(x, y box) bool { return slices.Equal(x, y) })
}

func sameTables(a, b [][]box) bool { return slices.EqualFunc(a, b, sameRows) }
