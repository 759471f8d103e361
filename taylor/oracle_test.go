package taylor_test

// The chapter's words, one after the other, as they stand: at each order all series are made anew from their beginning. And the coefficients at single numbers, with their slopes, by another way than the chapter's: Picard's, with functions put together from their own series (exact numbers, where the operations are those of arithmetic, else floats).

import (
	"math"
	"math/big"
	"slices"

	"orrery/api"
	"orrery/elem"
	"orrery/ival"
)

// wordsSum adds terms, as many as there may be.
func wordsSum(first, last int, term func(i int) api.Ival) api.Ival {
	s := point(0)
	for i := first; i <= last; i++ {
		s = ival.Add(s, term(i))
	}
	return s
}

func wordsProduct(a, b box) box {
	var v box
	for k := range a {
		v = append(v, wordsSum(0, k, func(i int) api.Ival { return ival.Mul(a[i], b[k-i]) }))
	}
	return v
}

func wordsQuotient(a, b box) box {
	var v box
	for k := range a {
		known := wordsSum(1, k, func(i int) api.Ival { return ival.Mul(b[i], v[k-i]) })
		v = append(v, ival.Div(ival.Sub(a[k], known), b[0]))
	}
	return v
}

// steady is (x, 0, 0, ..).
func steady(x api.Ival, many int) box {
	return append(box{x}, slices.Repeat(box{point(0)}, many-1)...)
}

func wordsPower(a box, n int) box {
	one := steady(point(1), len(a))
	if n == 0 {
		return one
	}
	v := a
	for range max(n, -n) - 1 {
		v = wordsProduct(v, a)
	}
	if n < 0 {
		return wordsQuotient(one, v)
	}
	return v
}

func wordsRoot(a box) box {
	v := box{ival.Sqrt(a[0])}
	for k := 1; k < len(a); k++ {
		known := wordsSum(1, k-1, func(i int) api.Ival { return ival.Mul(v[i], v[k-i]) })
		v = append(v, ival.Div(ival.Sub(a[k], known), ival.Mul(point(2), v[0])))
	}
	return v
}

// wordsTerm is Mul(Mul(i, a[i]), b[k - i]).
func wordsTerm(k, i int, a, b box) api.Ival {
	return ival.Mul(ival.Mul(point(float64(i)), a[i]), b[k-i])
}

func wordsExp(a box) box {
	v := box{elem.Exp(a[0])}
	for k := 1; k < len(a); k++ {
		s := wordsSum(1, k, func(i int) api.Ival { return wordsTerm(k, i, a, v) })
		v = append(v, ival.Div(s, point(float64(k))))
	}
	return v
}

func wordsLog(a box) box {
	v := box{elem.Log(a[0])}
	for k := 1; k < len(a); k++ {
		s := wordsSum(1, k-1, func(i int) api.Ival { return wordsTerm(k, i, v, a) })
		v = append(v, ival.Div(ival.Sub(a[k], ival.Div(s, point(float64(k)))), a[0]))
	}
	return v
}

func wordsWaves(a box) (s, c box) {
	s, c = box{elem.Sin(a[0])}, box{elem.Cos(a[0])}
	for k := 1; k < len(a); k++ {
		n := point(float64(k))
		up := ival.Div(wordsSum(1, k, func(i int) api.Ival { return wordsTerm(k, i, a, c) }), n)
		down := ival.Neg(ival.Div(wordsSum(1, k, func(i int) api.Ival { return wordsTerm(k, i, a, s) }), n))
		s, c = append(s, up), append(c, down)
	}
	return s, c
}

func wordsAtan(a box) box {
	u := wordsProduct(a, a)
	u[0] = ival.Add(point(1), u[0])
	v := box{elem.Atan(a[0])}
	for k := 1; k < len(a); k++ {
		s := wordsSum(1, k-1, func(i int) api.Ival { return wordsTerm(k, i, v, u) })
		v = append(v, ival.Div(ival.Sub(a[k], ival.Div(s, point(float64(k)))), u[0]))
	}
	return v
}

// each puts two series together, coefficient by coefficient.
func each(a, b box, with func(x, y api.Ival) api.Ival) box {
	var v box
	for k := range a {
		v = append(v, with(a[k], b[k]))
	}
	return v
}

// wordsSeries is that of an operation, of as many coefficients as its operands and the variables have.
func wordsSeries(o op, many int, x []box, of ...box) box {
	switch o.Kind {
	case api.TConst:
		return steady(o.Lit, many)
	case api.TVar:
		return x[o.N]
	case api.TAdd:
		return each(of[0], of[1], ival.Add)
	case api.TSub:
		return each(of[0], of[1], ival.Sub)
	case api.TMul:
		return wordsProduct(of[0], of[1])
	case api.TDiv:
		return wordsQuotient(of[0], of[1])
	case api.TNeg:
		return each(of[0], of[0], func(x, _ api.Ival) api.Ival { return ival.Neg(x) })
	case api.TPow:
		return wordsPower(of[0], o.N)
	case api.TSqrt:
		return wordsRoot(of[0])
	case api.TExp:
		return wordsExp(of[0])
	case api.TLog:
		return wordsLog(of[0])
	case api.TAtan:
		return wordsAtan(of[0])
	}
	s, c := wordsWaves(of[0])
	if o.Kind == api.TSin {
		return s
	}
	return c
}

// wordsOutside is with the operands' coefficients, and the operation's own.
func wordsOutside(o op, v box, of ...box) bool {
	switch k := len(v) - 1; k {
	case 0:
		return o.Kind == api.TDiv && of[1][0].Lo <= 0 && of[1][0].Hi >= 0 ||
			o.Kind == api.TSqrt && of[0][0].Lo < 0 ||
			o.Kind == api.TLog && of[0][0].Lo <= 0 ||
			o.Kind == api.TPow && o.N < 0 && of[0][0].Lo <= 0 && of[0][0].Hi >= 0
	case 1:
		return o.Kind == api.TSqrt && v[0].Lo <= 0
	}
	return false
}

func unbounded(x api.Ival) bool { return math.IsInf(x.Lo, 0) || math.IsInf(x.Hi, 0) }

// wordsCoefs takes a field, intervals and an order that are not refused.
func wordsCoefs(t api.Tape, begin box, order int) ([]box, api.Errno) {
	rows := []box{slices.Clone(begin)}
	x := make([]box, t.Vars) // by variable
	for i := range x {
		x[i] = box{begin[i]}
	}
	for k := range order {
		var done []box
		for _, o := range t.Ops {
			var of []box
			if needsA(o.Kind) {
				of = append(of, done[o.A])
			}
			if needsB(o.Kind) {
				of = append(of, done[o.B])
			}
			v := wordsSeries(o, k+1, x, of...)
			if wordsOutside(o, v, of...) {
				return nil, api.ErrDomain
			}
			if unbounded(v[k]) {
				return nil, api.ErrWide
			}
			done = append(done, v)
		}
		var row box
		for i, n := range t.Outs {
			c := ival.Div(done[n][k], point(float64(k+1)))
			if unbounded(c) {
				return nil, api.ErrWide
			}
			x[i] = append(x[i], c)
			row = append(row, c)
		}
		rows = append(rows, row)
	}
	return rows, api.OK
}

// inverse is a kind of its own here: the series of 1 / a.
const inverse = -1

// ring is what numbers are counted with: exact ones, or floats; with a slope or without.
type ring[T any] struct {
	whole         func(n int) T
	add, sub, mul func(a, b T) T
	divided       func(a T, n int) T
	expansion     func(kind int, a T, many int) []T // the coefficients of a function's own series at a
}

func exactRing() ring[number] {
	fresh := func() number { return new(big.Rat) }
	return ring[number]{
		whole:   func(n int) number { return big.NewRat(int64(n), 1) },
		add:     func(a, b number) number { return fresh().Add(a, b) },
		sub:     func(a, b number) number { return fresh().Sub(a, b) },
		mul:     func(a, b number) number { return fresh().Mul(a, b) },
		divided: func(a number, n int) number { return fresh().Quo(a, big.NewRat(int64(n), 1)) },
		expansion: func(kind int, a number, many int) []number {
			if kind != inverse {
				panic("no exact series")
			}
			c := []number{fresh().Inv(a)}
			for len(c) < many {
				c = append(c, fresh().Neg(fresh().Quo(c[len(c)-1], a)))
			}
			return c
		},
	}
}

func floatRing() ring[float64] {
	return ring[float64]{
		whole:   func(n int) float64 { return float64(n) },
		add:     func(a, b float64) float64 { return a + b },
		sub:     func(a, b float64) float64 { return a - b },
		mul:     func(a, b float64) float64 { return a * b },
		divided: func(a float64, n int) float64 { return a / float64(n) },
		expansion: func(kind int, a float64, many int) []float64 {
			var c []float64
			for m := range many {
				c = append(c, expanded(kind, a, m))
			}
			return c
		},
	}
}

// expanded is a function's m-th derivative at a, by the factorial of m, as tables tell it.
func expanded(kind int, a float64, m int) float64 {
	n, turn := float64(m), float64(m)*math.Pi/2
	sign := float64(1 - 2*(m%2))
	switch kind {
	case inverse:
		return sign * math.Pow(a, -n-1)
	case api.TSqrt:
		c := math.Pow(a, 0.5-n)
		for i := range m {
			c *= (0.5 - float64(i)) / float64(i+1)
		}
		return c
	case api.TExp:
		return math.Exp(a) / math.Gamma(n+1)
	case api.TSin:
		return math.Sin(a+turn) / math.Gamma(n+1)
	case api.TCos:
		return math.Cos(a+turn) / math.Gamma(n+1)
	case api.TLog:
		if m == 0 {
			return math.Log(a)
		}
		return -sign / n * math.Pow(a, -n)
	}
	y := math.Atan(a)
	if m == 0 {
		return y
	}
	return math.Pow(math.Cos(y), n) * math.Sin(n*(y+math.Pi/2)) / n
}

// pair is a number and its slope.
type pair[T any] struct{ v, d T }

// sloped counts with slopes besides.
func sloped[T any](r ring[T]) ring[pair[T]] {
	type p = pair[T]
	return ring[p]{
		whole: func(n int) p { return p{r.whole(n), r.whole(0)} },
		add:   func(a, b p) p { return p{r.add(a.v, b.v), r.add(a.d, b.d)} },
		sub:   func(a, b p) p { return p{r.sub(a.v, b.v), r.sub(a.d, b.d)} },
		mul: func(a, b p) p {
			return p{r.mul(a.v, b.v), r.add(r.mul(a.d, b.v), r.mul(a.v, b.d))}
		},
		divided: func(a p, n int) p { return p{r.divided(a.v, n), r.divided(a.d, n)} },
		expansion: func(kind int, a p, many int) []p {
			c := r.expansion(kind, a.v, many+1)
			var out []p
			for m := range many {
				out = append(out, p{c[m], r.mul(r.mul(r.whole(m+1), c[m+1]), a.d)})
			}
			return out
		},
	}
}

func (r ring[T]) product(a, b []T) []T {
	var v []T
	for k := range a {
		s := r.whole(0)
		for i := range k + 1 {
			s = r.add(s, r.mul(a[i], b[k-i]))
		}
		v = append(v, s)
	}
	return v
}

// put is a function of a series: its own series, of what a has beyond its first coefficient, by Horner's way.
func (r ring[T]) put(kind int, a []T) []T {
	c := r.expansion(kind, a[0], len(a))
	rest := slices.Clone(a)
	rest[0] = r.whole(0)
	v := slices.Repeat([]T{r.whole(0)}, len(a))
	for m := len(a) - 1; m >= 0; m-- {
		v = r.product(v, rest)
		v[0] = r.add(v[0], c[m])
	}
	return v
}

func (r ring[T]) power(a []T, n int) []T {
	v := slices.Repeat([]T{r.whole(0)}, len(a))
	v[0] = r.whole(1)
	if n < 0 {
		a = r.put(inverse, a)
	}
	for range max(n, -n) {
		v = r.product(v, a)
	}
	return v
}

// along is the series of all operations, along those of the variables.
func (r ring[T]) along(t api.Tape, x [][]T, lits []T) [][]T {
	var done [][]T
	zero := slices.Repeat([]T{r.whole(0)}, len(x[0]))
	both := func(a, b []T, with func(a, b T) T) []T {
		var v []T
		for k := range a {
			v = append(v, with(a[k], b[k]))
		}
		return v
	}
	for i, o := range t.Ops {
		var v []T
		switch o.Kind {
		case api.TConst:
			v = slices.Clone(zero)
			v[0] = lits[i]
		case api.TVar:
			v = x[o.N]
		case api.TAdd:
			v = both(done[o.A], done[o.B], r.add)
		case api.TSub:
			v = both(done[o.A], done[o.B], r.sub)
		case api.TMul:
			v = r.product(done[o.A], done[o.B])
		case api.TDiv:
			v = r.product(done[o.A], r.put(inverse, done[o.B]))
		case api.TNeg:
			v = both(zero, done[o.A], r.sub)
		case api.TPow:
			v = r.power(done[o.A], o.N)
		default:
			v = r.put(o.Kind, done[o.A])
		}
		done = append(done, v)
	}
	return done
}

// solution is the coefficients from 0 to an order of all variables of the solution that begins at x: what is right up to some order is put into the field, and is right up to one more.
func (r ring[T]) solution(t api.Tape, x, lits []T, order int) [][]T {
	now := make([][]T, len(x))
	for i := range x {
		now[i] = slices.Repeat([]T{r.whole(0)}, order+1)
		now[i][0] = x[i]
	}
	for range order {
		done := r.along(t, now, lits)
		next := make([][]T, len(x))
		for i, n := range t.Outs {
			next[i] = []T{x[i]}
			for k := range order {
				next[i] = append(next[i], r.divided(done[n][k], k+1))
			}
		}
		now = next
	}
	rows := make([][]T, order+1)
	for k := range rows {
		for i := range x {
			rows[k] = append(rows[k], now[i][k])
		}
	}
	return rows
}

// paired are numbers with their slopes by the one number j (by none, if it is below 0).
func paired[T any](r ring[T], x []T, j int) []pair[T] {
	var out []pair[T]
	for i, v := range x {
		d := r.whole(0)
		if i == j {
			d = r.whole(1)
		}
		out = append(out, pair[T]{v, d})
	}
	return out
}

// slopedSolution is the same with its slopes: by order, variable, and variable of the beginning.
func slopedSolution[T any](r ring[T], t api.Tape, x, lits []T, order int) [][][]T {
	slopes := make([][][]T, order+1)
	for k := range slopes {
		slopes[k] = make([][]T, len(x))
	}
	for j := range x {
		rows := sloped(r).solution(t, paired(r, x, j), paired(r, lits, -1), order)
		for k, row := range rows {
			for i, p := range row {
				slopes[k][i] = append(slopes[k][i], p.d)
			}
		}
	}
	return slopes
}
