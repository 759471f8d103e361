package kraw_test

// Questions whose roots are known exactly, ahead of being asked, and what an answer may say of them.

import (
	"math"
	"math/big"
	"math/rand"
	"slices"
	"testing"

	"orrery/api"
	"orrery/kraw"
)

var (
	inf    = math.Inf(1)
	nan    = math.NaN()
	minus0 = math.Copysign(0, -1)
	least  = math.SmallestNonzeroFloat64
	none   = api.Ival{Lo: inf, Hi: -inf}
	all    = api.Ival{Lo: -inf, Hi: inf}
)

type (
	box    = []api.Ival
	op     = api.Op
	number = *big.Rat
)

func iv(lo, hi float64) api.Ival { return api.Ival{Lo: lo, Hi: hi} }

func point(v float64) api.Ival { return iv(v, v) }

func points(vs ...float64) box {
	var x box
	for _, v := range vs {
		x = append(x, point(v))
	}
	return x
}

func lit(lo, hi float64) op { return op{Kind: api.TConst, Lit: iv(lo, hi)} }

func variable(n int) op { return op{Kind: api.TVar, N: n} }

func of(kind, a int) op { return op{Kind: kind, A: a} }

func both(kind, a, b int) op { return op{Kind: kind, A: a, B: b} }

func pow(a, n int) op { return op{Kind: api.TPow, A: a, N: n} }

// lastOf is a tape that tells its last operation.
func lastOf(vars int, ops ...op) api.Tape {
	return api.Tape{Vars: vars, Ops: ops, Outs: []int{len(ops) - 1}}
}

// square is v v - q: of q as a parameter.
func square() api.Tape {
	return lastOf(2, variable(0), variable(1), both(api.TMul, 0, 0), both(api.TSub, 2, 1))
}

// put lays an operation behind those of t, and is its number.
func put(t *api.Tape, o op) int {
	t.Ops = append(t.Ops, o)
	return len(t.Ops) - 1
}

// linear is a sum of products, one behind the other, less b; what is multiplied are operations of t.
func linear(t *api.Tape, factors []float64, of []int, b float64) int {
	sum := -1
	for j, a := range factors {
		p := put(t, both(api.TMul, put(t, lit(a, a)), of[j]))
		if sum >= 0 {
			p = put(t, both(api.TAdd, sum, p))
		}
		sum = p
	}
	return put(t, both(api.TSub, sum, put(t, lit(b, b))))
}

// variables lays all of them at the front.
func variables(many int) (t api.Tape, places []int) {
	t.Vars = many
	for j := range many {
		places = append(places, put(&t, variable(j)))
	}
	return t, places
}

// lineOf is the tape of A v - b.
func lineOf(a [][]float64, b []float64) api.Tape {
	t, v := variables(len(a))
	for i, row := range a {
		t.Outs = append(t.Outs, linear(&t, row, v, b[i]))
	}
	return t
}

func exactly(v float64) number { return new(big.Rat).SetFloat64(v) }

func whole(n int64) number { return big.NewRat(n, 1) }

func plus(a, b number) number { return new(big.Rat).Add(a, b) }

func minus(a, b number) number { return new(big.Rat).Sub(a, b) }

func times(a, b number) number { return new(big.Rat).Mul(a, b) }

func amount(a number) number { return new(big.Rat).Abs(a) }

// holds tells whether a bounded x goes round v.
func holds(x api.Ival, v number) bool {
	return exactly(x.Lo).Cmp(v) <= 0 && exactly(x.Hi).Cmp(v) >= 0
}

func holdsAll(x box, v []number) bool {
	for i := range x {
		if !holds(x[i], v[i]) {
			return false
		}
	}
	return true
}

// applied is an exact matrix times a vector.
func applied(a [][]float64, v []number) []number {
	var out []number
	for _, row := range a {
		sum := whole(0)
		for j, w := range row {
			sum = plus(sum, times(exactly(w), v[j]))
		}
		out = append(out, sum)
	}
	return out
}

// solved is the v with A v = b, exactly; none, if A has no inverse.
func solved(a [][]float64, b []number) []number {
	n := len(a)
	rows := make([][]number, n)
	for i := range rows {
		for _, v := range a[i] {
			rows[i] = append(rows[i], exactly(v))
		}
		rows[i] = append(rows[i], b[i])
	}
	for k := range n {
		p := slices.IndexFunc(rows[k:], func(row []number) bool { return row[k].Sign() != 0 })
		if p < 0 {
			return nil
		}
		rows[k], rows[k+p] = rows[k+p], rows[k]
		for i := range rows {
			if i == k {
				continue
			}
			factor := new(big.Rat).Quo(rows[i][k], rows[k][k])
			for j := k; j <= n; j++ {
				rows[i][j] = minus(rows[i][j], times(factor, rows[k][j]))
			}
		}
	}
	var v []number
	for i := range rows {
		v = append(v, new(big.Rat).Quo(rows[i][n], rows[i][i]))
	}
	return v
}

// answer is what was told.
type answer struct {
	box box
	e   api.Errno
}

// ask is an answer that has the right form: of a question that may be, and whose tape has values and slopes.
func ask(t *testing.T, s api.Tape, x, p box) answer {
	t.Helper()
	z, e := kraw.Solve(s, x, p)
	switch {
	case e == api.OK && !liesIn(z, x):
		t.Errorf("Solve(%v, %v, %v) = %v: it does not lie in x", s, x, p, z)
	case e == api.ErrRoot || e == api.ErrNone:
		if z != nil {
			t.Errorf("Solve(%v, %v, %v) = %v beside the error %d", s, x, p, z, e)
		}
	case e != api.OK:
		t.Errorf("Solve(%v, %v, %v): the error %d", s, x, p, e)
	}
	return answer{z, e}
}

// liesIn tells whether z's ends are in order, no -0, and none outside of x.
func liesIn(z, x box) bool {
	if len(z) != len(x) {
		return false
	}
	for i := range z {
		if !(x[i].Lo <= z[i].Lo && z[i].Lo <= z[i].Hi && z[i].Hi <= x[i].Hi) || z[i].Lo == 0 && math.Signbit(z[i].Lo) || z[i].Hi == 0 && math.Signbit(z[i].Hi) {
			return false
		}
	}
	return true
}

// askKnown is P7.2, of a question all of whose roots in x are known, whatever the parameters are.
func askKnown(t *testing.T, s api.Tape, x, p box, roots [][]number) answer {
	t.Helper()
	var in [][]number
	for _, v := range roots {
		if holdsAll(x, v) {
			in = append(in, v)
		}
	}
	a := ask(t, s, x, p)
	switch {
	case a.e == api.ErrNone && len(in) > 0:
		t.Errorf("Solve(%v, %v, %v): ErrNone, though %v is a root", s, x, p, in[0])
	case a.e == api.OK && len(in) != 1:
		t.Errorf("Solve(%v, %v, %v) = %v, though there are %d roots", s, x, p, a.box, len(in))
	case a.e == api.OK && !holdsAll(a.box, in[0]):
		t.Errorf("Solve(%v, %v, %v) = %v, without the root %v", s, x, p, a.box, in[0])
	}
	return a
}

func chance(seed int64) *rand.Rand { return rand.New(rand.NewSource(seed)) }

// eighths are from -amount to amount.
func eighths(r *rand.Rand, amount int) float64 {
	return float64(r.Intn(16*amount+1)-8*amount) / 8
}

// someInterval has ends that are eighths, or, now and then, some that are near to one; some have one number.
func someInterval(r *rand.Rand, amount int) api.Ival {
	a, b := eighths(r, amount), eighths(r, amount)
	switch r.Intn(10) {
	case 0:
		b = a
	case 1:
		b = math.Nextafter(a, inf)
	case 2, 3, 4:
		b = a + []float64{0x1p-30, 0.01, 0.25, 0.5}[r.Intn(4)]
	case 5:
		a = math.Nextafter(a, -inf)
	}
	return iv(min(a, b), max(a, b))
}

// tally counts errors, so that a test sees whether it asked what it was to ask.
type tally map[api.Errno]int

func (c tally) wants(t *testing.T, many int, es ...api.Errno) {
	t.Helper()
	for _, e := range es {
		if c[e] < many {
			t.Errorf("only %d answers were %d: %v", c[e], e, c)
		}
	}
}
