package tape_test

// The chapter's words, one after the other, as they stand: each slope by itself, what is the same by asking every pair. And a tape's function at single numbers: exact ones, where its operations are those of arithmetic, else floats.

import (
	"math"
	"math/big"
	"math/rand"
	"slices"

	"orrery/api"
	"orrery/elem"
	"orrery/ival"
)

var (
	inf      = math.Inf(1)
	nan      = math.NaN()
	minus0   = math.Copysign(0, -1)
	least    = math.SmallestNonzeroFloat64
	greatest = math.MaxFloat64
	none     = api.Ival{Lo: inf, Hi: -inf}
	all      = api.Ival{Lo: -inf, Hi: inf}
)

type (
	box    = []api.Ival
	op     = api.Op
	number = *big.Rat
)

func iv(lo, hi float64) api.Ival { return api.Ival{Lo: lo, Hi: hi} }

func point(v float64) api.Ival { return iv(v, v) }

func lit(lo, hi float64) op { return op{Kind: api.TConst, Lit: iv(lo, hi)} }

func variable(n int) op { return op{Kind: api.TVar, N: n} }

func of(kind, a int) op { return op{Kind: kind, A: a} }

func both(kind, a, b int) op { return op{Kind: kind, A: a, B: b} }

func pow(a, n int) op { return op{Kind: api.TPow, A: a, N: n} }

// lastOf is a tape that tells its last operation.
func lastOf(vars int, ops ...op) api.Tape {
	return api.Tape{Vars: vars, Ops: ops, Outs: []int{len(ops) - 1}}
}

// parabola is the examples' tape x0 x0 - 2.
func parabola() api.Tape {
	return lastOf(1, variable(0), both(api.TMul, 0, 0), lit(2, 2), both(api.TSub, 1, 2))
}

func needsA(kind int) bool { return kind != api.TConst && kind != api.TVar }

func needsB(kind int) bool {
	return slices.Contains([]int{api.TAdd, api.TSub, api.TMul, api.TDiv}, kind)
}

func needsN(kind int) bool { return kind == api.TVar || kind == api.TPow }

// wrongIntervals may not be.
func wrongIntervals() box {
	return box{iv(nan, 1), iv(1, nan), iv(nan, nan), iv(2, 1), iv(minus0, 1), iv(-1, minus0), iv(minus0, minus0), iv(inf, inf), iv(-inf, -inf), iv(1, -inf), iv(inf, 1)}
}

// wordsValue takes 0 to 2 operands.
func wordsValue(o op, x box, of ...api.Ival) api.Ival {
	ofTwo := map[int]func(a, b api.Ival) api.Ival{api.TAdd: ival.Add, api.TSub: ival.Sub, api.TMul: ival.Mul, api.TDiv: ival.Div}
	ofOne := map[int]func(a api.Ival) api.Ival{api.TNeg: ival.Neg, api.TSqrt: ival.Sqrt, api.TExp: elem.Exp, api.TLog: elem.Log, api.TSin: elem.Sin, api.TCos: elem.Cos, api.TAtan: elem.Atan}
	switch {
	case o.Kind == api.TConst:
		return o.Lit
	case o.Kind == api.TVar:
		return x[o.N]
	case o.Kind == api.TPow:
		return ival.Pow(of[0], o.N)
	case needsB(o.Kind):
		return ofTwo[o.Kind](of[0], of[1])
	}
	return ofOne[o.Kind](of[0])
}

func wordsOutside(o op, of ...api.Ival) bool {
	return o.Kind == api.TDiv && of[1].Lo <= 0 && of[1].Hi >= 0 ||
		o.Kind == api.TSqrt && of[0].Lo < 0 ||
		o.Kind == api.TLog && of[0].Lo <= 0 ||
		o.Kind == api.TPow && o.N < 0 && of[0].Lo <= 0 && of[0].Hi >= 0
}

func unbounded(x api.Ival) bool { return math.IsInf(x.Lo, 0) || math.IsInf(x.Hi, 0) }

// wordsSlope is by the variable j.
func wordsSlope(o op, j int, v, a, b, da, db api.Ival) api.Ival {
	one, two := point(1), point(2)
	switch o.Kind {
	case api.TConst:
		return point(0)
	case api.TVar:
		if o.N == j {
			return one
		}
		return point(0)
	case api.TAdd:
		return ival.Add(da, db)
	case api.TSub:
		return ival.Sub(da, db)
	case api.TMul:
		return ival.Add(ival.Mul(da, b), ival.Mul(a, db))
	case api.TDiv:
		return ival.Div(ival.Sub(da, ival.Mul(v, db)), b)
	case api.TNeg:
		return ival.Neg(da)
	case api.TPow:
		if o.N == 0 {
			return point(0)
		}
		return ival.Mul(ival.Mul(point(float64(o.N)), ival.Pow(a, o.N-1)), da)
	case api.TSqrt:
		return ival.Div(da, ival.Mul(two, v))
	case api.TExp:
		return ival.Mul(v, da)
	case api.TLog:
		return ival.Div(da, a)
	case api.TSin:
		return ival.Mul(elem.Cos(a), da)
	case api.TCos:
		return ival.Neg(ival.Mul(elem.Sin(a), da))
	}
	return ival.Div(da, ival.Add(one, ival.Sqr(a)))
}

// wordsRun takes a tape and intervals that may be: it tells all operations' values, and, if asked, slopes.
func wordsRun(t api.Tape, x box, withSlopes bool) (values box, slopes []box, e api.Errno) {
	for i, o := range t.Ops {
		var of box
		ahead := []int{}
		if needsA(o.Kind) {
			of, ahead = append(of, values[o.A]), append(ahead, o.A)
		}
		if needsB(o.Kind) {
			of, ahead = append(of, values[o.B]), append(ahead, o.B)
		}
		if wordsOutside(o, of...) {
			return nil, nil, api.ErrDomain
		}
		v := wordsValue(o, x, of...)
		if unbounded(v) {
			return nil, nil, api.ErrWide
		}
		values = append(values, v)
		if !withSlopes {
			continue
		}
		of = append(of, none, none) // so that there are two, whoever needs them
		slopes = append(slopes, box{})
		for j := range t.Vars {
			d := box{}
			for _, n := range ahead {
				d = append(d, slopes[n][j])
			}
			d = append(d, none, none)
			if o.Kind == api.TSqrt && v.Lo <= 0 {
				return nil, nil, api.ErrDomain
			}
			slopes[i] = append(slopes[i], wordsSlope(o, j, v, of[0], of[1], d[0], d[1]))
		}
		if slices.ContainsFunc(slopes[i], unbounded) {
			return nil, nil, api.ErrWide
		}
	}
	return values, slopes, api.OK
}

func wordsEval(t api.Tape, x box) (box, api.Errno) {
	values, _, e := wordsRun(t, x, false)
	if e != api.OK {
		return nil, e
	}
	return picked(values, t.Outs), e
}

func wordsGrad(t api.Tape, x box) (box, []box, api.Errno) {
	values, slopes, e := wordsRun(t, x, true)
	if e != api.OK {
		return nil, nil, e
	}
	return picked(values, t.Outs), picked(slopes, t.Outs), e
}

func picked[T any](list []T, numbers []int) []T {
	var out []T
	for _, n := range numbers {
		out = append(out, list[n])
	}
	return out
}

// wordsNeed tells of each operation whether some of Outs needs it.
func wordsNeed(t api.Tape) []bool {
	need := make([]bool, len(t.Ops))
	var mark func(n int)
	mark = func(n int) {
		if need[n] {
			return
		}
		need[n] = true
		if needsA(t.Ops[n].Kind) {
			mark(t.Ops[n].A)
		}
		if needsB(t.Ops[n].Kind) {
			mark(t.Ops[n].B)
		}
	}
	for _, n := range t.Outs {
		mark(n)
	}
	return need
}

// wordsTrim takes a tape that may be.
func wordsTrim(t api.Tape) api.Tape {
	need := wordsNeed(t)
	is := make([]int, len(t.Ops)) // which of the old ones each is
	same := func(p, q op) bool {
		return p.Kind == q.Kind &&
			(!needsA(p.Kind) || is[p.A] == is[q.A]) && (!needsB(p.Kind) || is[p.B] == is[q.B]) &&
			(!needsN(p.Kind) || p.N == q.N) && (p.Kind != api.TConst || p.Lit == q.Lit)
	}
	out := api.Tape{Vars: t.Vars}
	now := map[int]int{}
	for i, o := range t.Ops {
		if !need[i] {
			continue
		}
		is[i] = i
		for k := range i {
			if need[k] && same(t.Ops[k], o) {
				is[i] = is[k]
				break
			}
		}
		if is[i] != i {
			continue
		}
		now[i] = len(out.Ops)
		kept := op{Kind: o.Kind}
		if needsA(o.Kind) {
			kept.A = now[is[o.A]]
		}
		if needsB(o.Kind) {
			kept.B = now[is[o.B]]
		}
		if needsN(o.Kind) {
			kept.N = o.N
		}
		if o.Kind == api.TConst {
			kept.Lit = o.Lit
		}
		out.Ops = append(out.Ops, kept)
	}
	for _, n := range t.Outs {
		out.Outs = append(out.Outs, now[is[n]])
	}
	return out
}

func sameTape(s, t api.Tape) bool {
	return s.Vars == t.Vars && slices.Equal(s.Ops, t.Ops) && slices.Equal(s.Outs, t.Outs)
}

func sameRows(a, b []box) bool {
	return slices.EqualFunc(a, b, func(x, y box) bool { return slices.Equal(x, y) })
}

func chance(seed int64) *rand.Rand { return rand.New(rand.NewSource(seed)) }

func kindsUpTo(last int) []int {
	var kinds []int
	for k := api.TConst; k <= last; k++ {
		kinds = append(kinds, k)
	}
	return kinds
}

// someInterval is near to the numbers from -3 to 3; some have one number, some are as wide as that.
func someInterval(r *rand.Rand) api.Ival {
	a := float64(r.Intn(49)-24) / 8
	width := []float64{0, 0, 0x1p-20, 0.1, 0.1, 0.5, 2}[r.Intn(7)]
	return iv(a, a+width)
}

func someBox(r *rand.Rand, many int) box {
	var x box
	for range many {
		x = append(x, someInterval(r))
	}
	return x
}

// someOp takes an operation of one of the kinds that can stand there.
func someOp(r *rand.Rand, kinds []int, place, vars, power int) op {
	for {
		o := op{Kind: kinds[r.Intn(len(kinds))]}
		if needsA(o.Kind) && place == 0 || o.Kind == api.TVar && vars == 0 {
			continue
		}
		if place > 0 {
			o.A, o.B = r.Intn(place), max(0, place-1-r.Intn(4))
			if r.Intn(2) == 0 {
				o.A, o.B = o.B, o.A
			}
		}
		switch o.Kind {
		case api.TVar:
			o.N = r.Intn(vars)
		case api.TPow:
			o.N = r.Intn(2*power+1) - power
			if r.Intn(4) == 0 {
				o.N = []int{-power, power}[r.Intn(2)]
			}
		case api.TConst:
			o.Lit = someInterval(r)
		}
		return o
	}
}

// someTape has all its variables first, as far as there is room.
func someTape(r *rand.Rand, kinds []int, vars, many, outs, power int) api.Tape {
	t := api.Tape{Vars: vars}
	for i := range many {
		if i < vars {
			t.Ops = append(t.Ops, variable(i))
			continue
		}
		t.Ops = append(t.Ops, someOp(r, kinds, i, vars, power))
	}
	for range outs {
		t.Outs = append(t.Outs, r.Intn(many))
	}
	return t
}

// withJunk is the same tape with anything in the fields that are not needed.
func withJunk(r *rand.Rand, t api.Tape) api.Tape {
	junk := []int{-1, 0, 1, 3999, 4000, 65, math.MaxInt, math.MinInt}
	lits := append(wrongIntervals(), none, all, point(0))
	out := api.Tape{Vars: t.Vars, Ops: slices.Clone(t.Ops), Outs: slices.Clone(t.Outs)}
	for i := range out.Ops {
		o := &out.Ops[i]
		if !needsA(o.Kind) {
			o.A = junk[r.Intn(len(junk))]
		}
		if !needsB(o.Kind) {
			o.B = junk[r.Intn(len(junk))]
		}
		if !needsN(o.Kind) {
			o.N = junk[r.Intn(len(junk))]
		}
		if o.Kind != api.TConst {
			o.Lit = lits[r.Intn(len(lits))]
		}
	}
	return out
}

// field is what numbers are counted with: exact ones, or floats.
type field[T any] struct {
	whole              func(n int) T
	add, sub, mul, div func(a, b T) T
	function           func(kind int, a T) T
}

func exactField() field[number] {
	fresh := func() number { return new(big.Rat) }
	return field[number]{
		whole: func(n int) number { return big.NewRat(int64(n), 1) },
		add:   func(a, b number) number { return fresh().Add(a, b) },
		sub:   func(a, b number) number { return fresh().Sub(a, b) },
		mul:   func(a, b number) number { return fresh().Mul(a, b) },
		div:   func(a, b number) number { return fresh().Quo(a, b) },
	}
}

func floatField() field[float64] {
	functions := map[int]func(a float64) float64{api.TSqrt: math.Sqrt, api.TExp: math.Exp, api.TLog: math.Log, api.TSin: math.Sin, api.TCos: math.Cos, api.TAtan: math.Atan}
	return field[float64]{
		whole:    func(n int) float64 { return float64(n) },
		add:      func(a, b float64) float64 { return a + b },
		sub:      func(a, b float64) float64 { return a - b },
		mul:      func(a, b float64) float64 { return a * b },
		div:      func(a, b float64) float64 { return a / b },
		function: func(kind int, a float64) float64 { return functions[kind](a) },
	}
}

func (f field[T]) power(a T, n int) T {
	p := f.whole(1)
	for range max(n, -n) {
		p = f.mul(p, a)
	}
	if n < 0 {
		p = f.div(f.whole(1), p)
	}
	return p
}

// outer is the slope of a function of one number there, as schools teach it.
func (f field[T]) outer(kind int, a T) T {
	one := f.whole(1)
	switch kind {
	case api.TSqrt:
		return f.div(one, f.mul(f.whole(2), f.function(kind, a)))
	case api.TExp:
		return f.function(kind, a)
	case api.TLog:
		return f.div(one, a)
	case api.TSin:
		return f.function(api.TCos, a)
	case api.TCos:
		return f.sub(f.whole(0), f.function(api.TSin, a))
	}
	return f.div(one, f.add(one, f.mul(a, a)))
}

// at tells a tape's function, and its slopes, at the numbers x, with the numbers lits in place of each Lit. It takes a tape that has values there.
func (f field[T]) at(t api.Tape, x, lits []T) (values []T, slopes [][]T) {
	for i, o := range t.Ops {
		v := f.whole(0)
		by := make([]T, t.Vars)
		each := func(slope func(j int) T) {
			for j := range by {
				by[j] = slope(j)
			}
		}
		switch {
		case o.Kind == api.TConst:
			v = lits[i]
			each(func(int) T { return f.whole(0) })
		case o.Kind == api.TVar:
			v = x[o.N]
			each(func(int) T { return f.whole(0) })
			by[o.N] = f.whole(1)
		case needsB(o.Kind):
			v, by = f.ofTwo(o.Kind, values[o.A], values[o.B], slopes[o.A], slopes[o.B])
		default:
			a, da := values[o.A], slopes[o.A]
			var outer T
			v, outer = f.ofOne(o, a)
			each(func(j int) T { return f.mul(outer, da[j]) })
		}
		values, slopes = append(values, v), append(slopes, by)
	}
	return values, slopes
}

func (f field[T]) ofOne(o op, a T) (v, outer T) {
	switch o.Kind {
	case api.TNeg:
		return f.sub(f.whole(0), a), f.whole(-1)
	case api.TPow:
		if o.N == 0 {
			return f.whole(1), f.whole(0)
		}
		return f.power(a, o.N), f.mul(f.whole(o.N), f.power(a, o.N-1))
	}
	return f.function(o.Kind, a), f.outer(o.Kind, a)
}

func (f field[T]) ofTwo(kind int, a, b T, da, db []T) (v T, by []T) {
	for j := range da {
		switch kind {
		case api.TAdd:
			by = append(by, f.add(da[j], db[j]))
		case api.TSub:
			by = append(by, f.sub(da[j], db[j]))
		case api.TMul:
			by = append(by, f.add(f.mul(da[j], b), f.mul(a, db[j])))
		case api.TDiv:
			by = append(by, f.div(f.sub(f.mul(da[j], b), f.mul(a, db[j])), f.mul(b, b)))
		}
	}
	return map[int]func(a, b T) T{api.TAdd: f.add, api.TSub: f.sub, api.TMul: f.mul, api.TDiv: f.div}[kind](a, b), by
}

func exactly(v float64) number { return new(big.Rat).SetFloat64(v) }

// holds tells whether a bounded x goes round v.
func holds(x api.Ival, v number) bool {
	return exactly(x.Lo).Cmp(v) <= 0 && exactly(x.Hi).Cmp(v) >= 0
}

// someIn is a float that a bounded x holds, an end among them.
func someIn(r *rand.Rand, x api.Ival) float64 {
	v := x.Lo + r.Float64()*(x.Hi-x.Lo)
	switch r.Intn(6) {
	case 0:
		v = x.Lo
	case 1:
		v = x.Hi
	}
	return min(max(v, x.Lo), x.Hi)
}

func someInAll(r *rand.Rand, x box) []float64 {
	var p []float64
	for _, v := range x {
		p = append(p, someIn(r, v))
	}
	return p
}

// someLits has a number for each operation, of those in its Lit if it is a TConst.
func someLits(r *rand.Rand, t api.Tape) []float64 {
	lits := make([]float64, len(t.Ops))
	for i, o := range t.Ops {
		if o.Kind == api.TConst {
			lits[i] = someIn(r, o.Lit)
		}
	}
	return lits
}

func allExactly(p []float64) []number {
	var out []number
	for _, v := range p {
		out = append(out, exactly(v))
	}
	return out
}
