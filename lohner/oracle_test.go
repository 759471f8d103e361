package lohner_test

// Sets and their members; laws, which are fields whose solutions are known: all in numbers of 400 bits.

import (
	"math"
	"math/big"
	"math/rand"
	"slices"
	"testing"

	"orrery/api"
	"orrery/ival"
	"orrery/lohner"
)

var (
	inf      = math.Inf(1)
	nan      = math.NaN()
	minus0   = math.Copysign(0, -1)
	least    = math.SmallestNonzeroFloat64
	greatest = math.MaxFloat64
	none     = api.Ival{Lo: inf, Hi: -inf}
	all      = api.Ival{Lo: -inf, Hi: inf}
)

type (
	box    = []api.Ival
	matrix = [][]float64
	op     = api.Op
	number = *big.Float
	place  = []number
)

func iv(lo, hi float64) api.Ival { return api.Ival{Lo: lo, Hi: hi} }

func point(v float64) api.Ival { return iv(v, v) }

func points(vs ...float64) box {
	var x box
	for _, v := range vs {
		x = append(x, point(v))
	}
	return x
}

func lit(v float64) op { return op{Kind: api.TConst, Lit: point(v)} }

func variable(n int) op { return op{Kind: api.TVar, N: n} }

func of(kind, a int) op { return op{Kind: kind, A: a} }

func both(kind, a, b int) op { return op{Kind: kind, A: a, B: b} }

func pow(a, n int) op { return op{Kind: api.TPow, A: a, N: n} }

// lastOf is a field of one variable, which goes as its last operation tells.
func lastOf(ops ...op) api.Tape {
	return api.Tape{Vars: 1, Ops: ops, Outs: []int{len(ops) - 1}}
}

// put lays an operation behind those of t, and is its number.
func put(t *api.Tape, o op) int {
	t.Ops = append(t.Ops, o)
	return len(t.Ops) - 1
}

// putVariables lays all of t's.
func putVariables(t *api.Tape) []int {
	var ops []int
	for j := range t.Vars {
		ops = append(ops, put(t, variable(j)))
	}
	return ops
}

// putSum lays b, and to it the products of a row and of operations.
func putSum(t *api.Tape, b float64, row []float64, ops []int) int {
	sum := put(t, lit(b))
	for j, v := range row {
		sum = put(t, both(api.TAdd, sum, put(t, both(api.TMul, put(t, lit(v)), ops[j]))))
	}
	return sum
}

// num is of 400 bits, and so is what is made of it.
func num(v float64) number { return new(big.Float).SetPrec(400).SetFloat64(v) }

func plus(a, b number) number { return new(big.Float).Add(a, b) }

func minus(a, b number) number { return new(big.Float).Sub(a, b) }

func times(a, b number) number { return new(big.Float).Mul(a, b) }

func over(a, b number) number { return new(big.Float).Quo(a, b) }

func root(a number) number { return new(big.Float).Sqrt(a) }

func amount(a number) number { return new(big.Float).Abs(a) }

// mix is a matrix times a vector.
func mix(m matrix, v place) place {
	to := make(place, len(m))
	for i, row := range m {
		to[i] = num(0)
		for j, w := range row {
			to[i] = plus(to[i], times(num(w), v[j]))
		}
	}
	return to
}

// holds tells whether a box goes round v, but for what 400 bits leave out.
func holds(b box, v place) bool {
	room := num(0x1p-250)
	for i, x := range b {
		if minus(num(x.Lo), room).Cmp(v[i]) > 0 || plus(num(x.Hi), room).Cmp(v[i]) < 0 {
			return false
		}
	}
	return len(b) == len(v)
}

// memberOf is C + A r.
func memberOf(s api.Set, r place) place {
	v := mix(s.A, r)
	for i := range v {
		v[i] = plus(num(s.C[i]), v[i])
	}
	return v
}

// has tells whether v is C + A r for an r in R. It takes sets whose A has an inverse.
func has(t *testing.T, s api.Set, v place) bool {
	t.Helper()
	away := make(place, len(v))
	for i := range v {
		away[i] = minus(v[i], num(s.C[i]))
	}
	r := solved(s.A, away)
	if r == nil {
		t.Fatal("A has no inverse:", s)
	}
	return holds(s.R, r)
}

// solved is the r with A r = v; nil, if a pivot is 0.
func solved(a matrix, v place) place {
	rows := make([]place, len(a))
	for i, row := range a {
		for _, w := range row {
			rows[i] = append(rows[i], num(w))
		}
		rows[i] = append(rows[i], v[i])
	}
	for k := range rows {
		best := k
		for i := k; i < len(rows); i++ {
			if amount(rows[i][k]).Cmp(amount(rows[best][k])) > 0 {
				best = i
			}
		}
		rows[k], rows[best] = rows[best], rows[k]
		if rows[k][k].Sign() == 0 {
			return nil
		}
		for i := range rows {
			if i != k {
				takeOff(rows[i], rows[k], over(rows[i][k], rows[k][k]))
			}
		}
	}
	r := make(place, len(rows))
	for k, row := range rows {
		r[k] = over(row[len(rows)], row[k])
	}
	return r
}

func takeOff(v, w place, factor number) {
	for j := range v {
		v[j] = minus(v[j], times(factor, w[j]))
	}
}

// law is a field, and where its solution that begins at v is behind a time: nowhere, if it ended ahead of that.
type law struct {
	name  string
	field api.Tape
	at    func(v place, h number) place
}

// line is x' = A x + b. The next term of its series is A times the one ahead, by its number.
func line(a matrix, b []float64) law {
	t := api.Tape{Vars: len(a)}
	x := putVariables(&t)
	for i, row := range a {
		t.Outs = append(t.Outs, putSum(&t, b[i], row, x))
	}
	return law{"a line", t, func(v place, h number) place {
		sum, term := slices.Clone(v), mix(a, v)
		for i := range term {
			term[i] = plus(term[i], num(b[i]))
		}
		for k := range 80 {
			for i := range term {
				term[i] = over(times(term[i], h), num(float64(k+1)))
				sum[i] = plus(sum[i], term[i])
			}
			term = mix(a, term)
		}
		return sum
	}}
}

func turning() law { return line(matrix{{0, 1}, {-1, 0}}, []float64{0, 0}) }

// squares is u' = u u of each u, with x = M u.
func squares(m, inverse matrix) law {
	t := api.Tape{Vars: len(m)}
	x := putVariables(&t)
	var rates []int
	for _, row := range inverse {
		u := putSum(&t, 0, row, x)
		rates = append(rates, put(&t, both(api.TMul, u, u)))
	}
	for _, row := range m {
		t.Outs = append(t.Outs, putSum(&t, 0, row, rates))
	}
	return law{"squares", t, func(v place, h number) place {
		u := mix(inverse, v)
		for i := range u {
			left := minus(num(1), times(u[i], h))
			if left.Sign() <= 0 {
				return nil
			}
			u[i] = over(u[i], left)
		}
		return mix(m, u)
	}}
}

// someSquares has matrices of whole numbers that undo each other.
func someSquares(vars int) law {
	m := matrix{{1, 1, 0, 2}, {0, 1, -1, 0}, {0, 0, 1, 1}, {0, 0, 0, 1}}
	inverse := matrix{{1, -1, -1, -1}, {0, 1, 1, -1}, {0, 0, 1, -1}, {0, 0, 0, 1}}
	for i := range vars {
		m[i], inverse[i] = m[i][:vars], inverse[i][:vars]
	}
	return squares(m[:vars], inverse[:vars])
}

func square() api.Tape { return lastOf(variable(0), both(api.TMul, 0, 0)) }

// seesaw is x' = x x, y' = -(x y).
func seesaw() law {
	t := api.Tape{Vars: 2, Ops: []op{variable(0), variable(1), both(api.TMul, 0, 0), both(api.TMul, 0, 1), of(api.TNeg, 3)}, Outs: []int{2, 4}}
	return law{"a seesaw", t, func(v place, h number) place {
		left := minus(num(1), times(v[0], h))
		if left.Sign() <= 0 {
			return nil
		}
		return place{over(v[0], left), times(v[1], left)}
	}}
}

// ray is x' = x / y, y' = 1, with y above 0.
func ray() law {
	t := api.Tape{Vars: 2, Ops: []op{variable(0), variable(1), both(api.TDiv, 0, 1), lit(1)}, Outs: []int{2, 3}}
	return law{"a ray", t, func(v place, h number) place {
		if v[1].Sign() <= 0 {
			return nil
		}
		y := plus(v[1], h)
		return place{over(times(v[0], y), v[1]), y}
	}}
}

// rooted is x' = root of x, y' = y^-1, with both above 0.
func rooted() law {
	t := api.Tape{Vars: 2, Ops: []op{variable(0), of(api.TSqrt, 0), variable(1), pow(2, -1)}, Outs: []int{1, 3}}
	return law{"roots", t, func(v place, h number) place {
		if v[0].Sign() <= 0 || v[1].Sign() <= 0 {
			return nil
		}
		x := plus(root(v[0]), over(h, num(2)))
		return place{times(x, x), root(plus(times(v[1], v[1]), times(num(2), h)))}
	}}
}

// cubes is x' = -(x^3) / 2, y' = 2 x x y.
func cubes() law {
	t := api.Tape{Vars: 2, Ops: []op{
		variable(0), pow(0, 3), lit(-0.5), both(api.TMul, 1, 2),
		variable(1), pow(0, 2), both(api.TMul, 4, 5), both(api.TAdd, 6, 6),
	}, Outs: []int{3, 7}}
	return law{"cubes", t, func(v place, h number) place {
		grown := plus(num(1), times(h, times(v[0], v[0])))
		return place{over(v[0], root(grown)), times(v[1], times(grown, grown))}
	}}
}

// answer is what was told.
type answer struct {
	set api.Set
	box box
	e   api.Errno
}

// ask is an answer that has the form that P9.2 asks for.
func ask(t *testing.T, s api.Tape, from api.Set, time float64, order int) answer {
	t.Helper()
	next, way, e := lohner.Step(s, from, time, order)
	errors := []api.Errno{api.ErrBound, api.ErrDomain, api.ErrWide, api.ErrRegular}
	switch {
	case e != api.OK && !isNothing(next, way):
		t.Errorf("Step(%v, %v, %g, %d) = %v, %v beside the error %d", s, from, time, order, next, way, e)
	case e != api.OK && !slices.Contains(errors, e):
		t.Errorf("Step(%v, %v, %g, %d): the error %d", s, from, time, order, e)
	case e == api.OK && (!lohner.Right(next) || len(next.C) != s.Vars || len(way) != s.Vars || !isPlain(way)):
		t.Errorf("Step(%v, %v, %g, %d) = %v, %v may not be", s, from, time, order, next, way)
	}
	if _, e := lohner.Box(next); len(next.C) > 0 && e != api.OK {
		t.Errorf("Step(%v, %v, %g, %d) = %v, whose box is the error %d", s, from, time, order, next, e)
	}
	return answer{next, way, e}
}

// askError asks for an error, and nothing beside it.
func askError(t *testing.T, name string, s api.Tape, from api.Set, time float64, order int, want api.Errno) {
	t.Helper()
	if next, way, e := lohner.Step(s, from, time, order); e != want || !isNothing(next, way) {
		t.Errorf("%s: Step(%v, %v, %g, %d) = %v, %v, %d, want the error %d", name, s, from, time, order, next, way, e, want)
	}
}

func isNothing(s api.Set, b box) bool {
	return len(s.C) == 0 && len(s.A) == 0 && len(s.R) == 0 && len(b) == 0
}

// isPlain tells whether all ends are in order, none infinite, NAN or -0.
func isPlain(b box) bool {
	for _, v := range b {
		if !ival.Right(v) || math.IsInf(v.Lo, 0) || math.IsInf(v.Hi, 0) {
			return false
		}
	}
	return true
}

func newOf(t *testing.T, x box) api.Set {
	t.Helper()
	s, e := lohner.New(x)
	if e != api.OK {
		t.Fatalf("New(%v): the error %d", x, e)
	}
	return s
}

func boxOf(t *testing.T, s api.Set) box {
	t.Helper()
	b, e := lohner.Box(s)
	if e != api.OK {
		t.Fatalf("Box(%v): the error %d", s, e)
	}
	return b
}

func widest(b box) float64 {
	greatest := 0.0
	for _, x := range b {
		greatest = max(greatest, ival.Wid(x))
	}
	return greatest
}

func chance(seed int64) *rand.Rand { return rand.New(rand.NewSource(seed)) }

// eighths are from -amount to amount.
func eighths(r *rand.Rand, amount int) float64 {
	return float64(r.Intn(16*amount+1)-8*amount) / 8
}

func someMatrix(r *rand.Rand, many int) matrix {
	m := make(matrix, many)
	for i := range m {
		for range many {
			m[i] = append(m[i], eighths(r, 1))
		}
	}
	return m
}

// someSet lies within some four widths of c. Of some C is no member, or A has no inverse.
func someSet(r *rand.Rand, c []float64, width float64) api.Set {
	s := api.Set{C: slices.Clone(c), A: someMatrix(r, len(c))}
	for i := range s.A {
		switch r.Intn(8) {
		case 0:
			s.A[i] = make([]float64, len(c))
		case 1, 2, 3:
			s.A[i] = make([]float64, len(c))
			s.A[i][i] = 1
		case 4:
			s.A[i] = slices.Clone(s.A[0])
		}
		a, b := width*(r.Float64()*2-1), width*(r.Float64()*2-1)
		switch r.Intn(4) {
		case 0:
			b = a
		case 1, 2:
			a, b = -math.Abs(a), math.Abs(a)
		}
		s.R = append(s.R, iv(min(a, b), max(a, b)))
	}
	return s
}

// someMember is one of a corner of R, of its middle, or of somewhere in it.
func someMember(r *rand.Rand, s api.Set) place {
	var at place
	for _, x := range s.R {
		at = append(at, num(someIn(r, x)))
	}
	return memberOf(s, at)
}

// someIn is a float in a bounded interval: an end, the middle, or one between.
func someIn(r *rand.Rand, x api.Ival) float64 {
	switch r.Intn(5) {
	case 0:
		return x.Lo
	case 1:
		return x.Hi
	case 2:
		return ival.Mid(x)
	}
	return min(x.Hi, max(x.Lo, x.Lo+r.Float64()*(x.Hi-x.Lo)))
}

// tally counts errors, so that a test sees whether it asked what it was to ask.
type tally map[api.Errno]int

func (c tally) wants(t *testing.T, many int, es ...api.Errno) {
	t.Helper()
	for _, e := range es {
		if c[e] < many {
			t.Errorf("only %d answers were %d: %v", c[e], e, c)
		}
	}
}
