package chain_test

// Laws, which are fields whose solutions are known, in numbers of 400 bits; and what chains must be, whatever they tell.

import (
	"math"
	"math/big"
	"math/rand"
	"slices"
	"testing"

	"orrery/api"
	"orrery/chain"
	"orrery/ival"
)

const second = api.Ticks

var (
	inf      = math.Inf(1)
	nan      = math.NaN()
	minus0   = math.Copysign(0, -1)
	least    = math.SmallestNonzeroFloat64
	greatest = math.MaxFloat64
	none     = api.Ival{Lo: inf, Hi: -inf}
	all      = api.Ival{Lo: -inf, Hi: inf}
)

type (
	box     = []api.Ival
	matrix  = [][]float64
	op      = api.Op
	control = api.Control
	number  = *big.Float
	place   = []number
)

func iv(lo, hi float64) api.Ival { return api.Ival{Lo: lo, Hi: hi} }

func point(v float64) api.Ival { return iv(v, v) }

func points(vs ...float64) box {
	var x box
	for _, v := range vs {
		x = append(x, point(v))
	}
	return x
}

func lit(v float64) op { return op{Kind: api.TConst, Lit: point(v)} }

func variable(n int) op { return op{Kind: api.TVar, N: n} }

func of(kind, a int) op { return op{Kind: kind, A: a} }

func both(kind, a, b int) op { return op{Kind: kind, A: a, B: b} }

func pow(a, n int) op { return op{Kind: api.TPow, A: a, N: n} }

// lastOf is a field of one variable, which goes as its last operation tells.
func lastOf(ops ...op) api.Tape {
	return api.Tape{Vars: 1, Ops: ops, Outs: []int{len(ops) - 1}}
}

// put lays an operation behind those of t, and is its number.
func put(t *api.Tape, o op) int {
	t.Ops = append(t.Ops, o)
	return len(t.Ops) - 1
}

// putVariables lays all of t's.
func putVariables(t *api.Tape) []int {
	var ops []int
	for j := range t.Vars {
		ops = append(ops, put(t, variable(j)))
	}
	return ops
}

// putSum lays b, and to it the products of a row and of operations.
func putSum(t *api.Tape, b float64, row []float64, ops []int) int {
	sum := put(t, lit(b))
	for j, v := range row {
		sum = put(t, both(api.TAdd, sum, put(t, both(api.TMul, put(t, lit(v)), ops[j]))))
	}
	return sum
}

// num is of 400 bits, and so is what is made of it.
func num(v float64) number { return new(big.Float).SetPrec(400).SetFloat64(v) }

func plus(a, b number) number { return new(big.Float).Add(a, b) }

func minus(a, b number) number { return new(big.Float).Sub(a, b) }

func times(a, b number) number { return new(big.Float).Mul(a, b) }

func over(a, b number) number { return new(big.Float).Quo(a, b) }

func root(a number) number { return new(big.Float).Sqrt(a) }

// seconds are of ticks, and of parts of them.
func seconds(ticks float64) number { return num(ticks / second) }

// mix is a matrix times a vector.
func mix(m matrix, v place) place {
	to := make(place, len(m))
	for i, row := range m {
		to[i] = num(0)
		for j, w := range row {
			to[i] = plus(to[i], times(num(w), v[j]))
		}
	}
	return to
}

// holds tells whether a box goes round v, but for what 400 bits leave out.
func holds(b box, v place) bool {
	room := num(0x1p-200)
	for i, x := range b {
		if minus(num(x.Lo), room).Cmp(v[i]) > 0 || plus(num(x.Hi), room).Cmp(v[i]) < 0 {
			return false
		}
	}
	return len(b) == len(v)
}

// law is a field, and where its solution that begins at v is behind a time: nowhere, if it ended ahead of that.
type law struct {
	name  string
	field api.Tape
	at    func(v place, h number) place
}

// line is x' = A x + b. The next term of its series is A times the one ahead, by its number.
func line(a matrix, b []float64) law {
	t := api.Tape{Vars: len(a)}
	x := putVariables(&t)
	for i, row := range a {
		t.Outs = append(t.Outs, putSum(&t, b[i], row, x))
	}
	return law{"a line", t, func(v place, h number) place {
		sum, term := slices.Clone(v), mix(a, v)
		for i := range term {
			term[i] = plus(term[i], num(b[i]))
		}
		for k := range 80 {
			for i := range term {
				term[i] = over(times(term[i], h), num(float64(k+1)))
				sum[i] = plus(sum[i], term[i])
			}
			term = mix(a, term)
		}
		return sum
	}}
}

func turning() law { return line(matrix{{0, 1}, {-1, 0}}, []float64{0, 0}) }

func growing() law { return line(matrix{{1}}, []float64{0}) }

func steady(v float64) law { return line(matrix{{0}}, []float64{v}) }

// squares is u' = u u of each u, with x = M u.
func squares(m, inverse matrix) law {
	t := api.Tape{Vars: len(m)}
	x := putVariables(&t)
	var rates []int
	for _, row := range inverse {
		u := putSum(&t, 0, row, x)
		rates = append(rates, put(&t, both(api.TMul, u, u)))
	}
	for _, row := range m {
		t.Outs = append(t.Outs, putSum(&t, 0, row, rates))
	}
	return law{"squares", t, func(v place, h number) place {
		u := mix(inverse, v)
		for i := range u {
			left := minus(num(1), times(u[i], h))
			if left.Sign() <= 0 {
				return nil
			}
			u[i] = over(u[i], left)
		}
		return mix(m, u)
	}}
}

// someSquares has matrices of whole numbers that undo each other.
func someSquares(vars int) law {
	m := matrix{{1, 1, 0, 2}, {0, 1, -1, 0}, {0, 0, 1, 1}, {0, 0, 0, 1}}
	inverse := matrix{{1, -1, -1, -1}, {0, 1, 1, -1}, {0, 0, 1, -1}, {0, 0, 0, 1}}
	for i := range vars {
		m[i], inverse[i] = m[i][:vars], inverse[i][:vars]
	}
	return squares(m[:vars], inverse[:vars])
}

// seesaw is x' = x x, y' = -(x y).
func seesaw() law {
	t := api.Tape{Vars: 2, Ops: []op{variable(0), variable(1), both(api.TMul, 0, 0), both(api.TMul, 0, 1), of(api.TNeg, 3)}, Outs: []int{2, 4}}
	return law{"a seesaw", t, func(v place, h number) place {
		left := minus(num(1), times(v[0], h))
		if left.Sign() <= 0 {
			return nil
		}
		return place{over(v[0], left), times(v[1], left)}
	}}
}

// ray is x' = x / y, y' = 1, with y above 0.
func ray() law {
	t := api.Tape{Vars: 2, Ops: []op{variable(0), variable(1), both(api.TDiv, 0, 1), lit(1)}, Outs: []int{2, 3}}
	return law{"a ray", t, func(v place, h number) place {
		if v[1].Sign() <= 0 {
			return nil
		}
		y := plus(v[1], h)
		return place{over(times(v[0], y), v[1]), y}
	}}
}

// rooted is x' = root of x, y' = y^-1, with both above 0.
func rooted() law {
	t := api.Tape{Vars: 2, Ops: []op{variable(0), of(api.TSqrt, 0), variable(1), pow(2, -1)}, Outs: []int{1, 3}}
	return law{"roots", t, func(v place, h number) place {
		if v[0].Sign() <= 0 || v[1].Sign() <= 0 {
			return nil
		}
		x := plus(root(v[0]), over(h, num(2)))
		return place{times(x, x), root(plus(times(v[1], v[1]), times(num(2), h)))}
	}}
}

// cubes is x' = -(x^3) / 2, y' = 2 x x y.
func cubes() law {
	t := api.Tape{Vars: 2, Ops: []op{
		variable(0), pow(0, 3), lit(-0.5), both(api.TMul, 1, 2),
		variable(1), pow(0, 2), both(api.TMul, 4, 5), both(api.TAdd, 6, 6),
	}, Outs: []int{3, 7}}
	return law{"cubes", t, func(v place, h number) place {
		grown := plus(num(1), times(h, times(v[0], v[0])))
		return place{over(v[0], root(grown)), times(v[1], times(grown, grown))}
	}}
}

// falling is x' = -1 / x, with x above 0: it comes to 0, where it has no rate.
func falling() law {
	t := lastOf(lit(-1), variable(0), both(api.TDiv, 0, 1))
	return law{"a fall", t, func(v place, h number) place {
		left := minus(times(v[0], v[0]), times(num(2), h))
		if left.Sign() <= 0 {
			return nil
		}
		return place{root(left)}
	}}
}

// draining is x' = -(root of x): it comes to 0 with less and less speed.
func draining() law {
	t := lastOf(variable(0), of(api.TSqrt, 0), of(api.TNeg, 1))
	return law{"a drain", t, func(v place, h number) place {
		left := minus(root(v[0]), over(h, num(2)))
		if left.Sign() <= 0 {
			return nil
		}
		return place{times(left, left)}
	}}
}

// answer is what was told.
type answer struct {
	pieces []api.Seg
	e      api.Errno
}

// reached is the time up to which it goes.
func (a answer) reached() int64 {
	if len(a.pieces) == 0 {
		return 0
	}
	return a.pieces[len(a.pieces)-1].To
}

// last is the End of the last piece.
func (a answer) last() box { return a.pieces[len(a.pieces)-1].End }

// ask is an answer to what may be asked: it has the form that P10.1 and P10.2 tell, and holds together as P10.4 does.
func ask(t *testing.T, field api.Tape, x box, until int64, c control) answer {
	t.Helper()
	pieces, e := chain.Run(field, x, until, c)
	a := answer{pieces, e}
	wrong := func(why string) {
		t.Helper()
		t.Errorf("Run(%v, %v, %d, %v) = %d pieces up to %d, %d: %s", field, x, until, c, len(pieces), a.reached(), e, why)
	}
	switch {
	case e == api.OK && a.reached() != until:
		wrong("it does not come to its end")
	case e != api.OK && a.reached() >= until:
		wrong("an error, but it comes to its end")
	case !slices.Contains([]api.Errno{api.OK, api.ErrFuel, api.ErrWide, api.ErrBound, api.ErrDomain, api.ErrRegular}, e):
		wrong("no error of the chapter")
	case len(pieces) > c.Steps:
		wrong("more pieces than steps")
	}
	at, ahead := int64(0), x
	for i, p := range pieces {
		if why := unlike(p, at, field.Vars); why != "" {
			wrong(why)
		}
		if widest(p.End) > c.Width && (e != api.ErrWide || i != len(pieces)-1) {
			wrong("an End is too wide")
		}
		if !meet(p.All, ahead) {
			wrong("an All has nothing of what is ahead")
		}
		at, ahead = p.To, p.End
	}
	return a
}

// unlike tells why p is no piece of a chain that has come to a time.
func unlike(p api.Seg, at int64, vars int) string {
	switch {
	case p.From != at:
		return "a piece does not begin where the one ahead ends"
	case p.To <= p.From:
		return "a piece does not end behind its beginning"
	case len(p.All) != vars || len(p.End) != vars:
		return "boxes of another number of components"
	case !isPlain(p.All) || !isPlain(p.End):
		return "boxes that may not be, or are not bounded"
	}
	for i := range p.End {
		if !ival.Inside(p.End[i], p.All[i]) {
			return "an End does not lie in its All"
		}
	}
	return ""
}

// isPlain tells whether all ends are in order, none infinite, NAN or -0.
func isPlain(b box) bool {
	for _, v := range b {
		if !ival.Right(v) || math.IsInf(v.Lo, 0) || math.IsInf(v.Hi, 0) {
			return false
		}
	}
	return true
}

// meet tells whether boxes of as many components have something in common.
func meet(a, b box) bool {
	for i := range a {
		if ival.Meet(a[i], b[i]) == none {
			return false
		}
	}
	return len(a) == len(b)
}

func widest(b box) float64 {
	width := 0.0
	for _, x := range b {
		width = max(width, ival.Wid(x))
	}
	return width
}

// askError asks for an error, and no pieces beside it.
func askError(t *testing.T, name string, field api.Tape, x box, until int64, c control, want api.Errno) {
	t.Helper()
	if pieces, e := chain.Run(field, x, until, c); e != want || len(pieces) != 0 {
		t.Errorf("%s: Run(%v, %v, %d, %v) = %v, %d, want the error %d", name, field, x, until, c, pieces, e, want)
	}
}

// followed asks, and holds the pieces against solutions from corners, the middle, and somewhere in the box: on their way, and at the ends. It is P10.2.
func followed(t *testing.T, r *rand.Rand, l law, x box, until int64, c control) answer {
	t.Helper()
	a := ask(t, l.field, x, until, c)
	for n := range 4 {
		follow(t, r, l, startIn(r, x, n), a, x)
	}
	return a
}

// startIn is a corner, the middle, or somewhere.
func startIn(r *rand.Rand, x box, n int) place {
	var v place
	for _, b := range x {
		switch n {
		case 0:
			v = append(v, num([]float64{b.Lo, b.Hi}[r.Intn(2)]))
		case 1:
			v = append(v, num(ival.Mid(b)))
		default:
			v = append(v, num(someIn(r, b)))
		}
	}
	return v
}

// follow goes along one solution.
func follow(t *testing.T, r *rand.Rand, l law, v place, a answer, x box) {
	t.Helper()
	begun := v
	for _, p := range a.pieces {
		long := float64(p.To - p.From)
		between, end := l.at(v, seconds(long*r.Float64())), l.at(v, seconds(long))
		if between == nil || end == nil {
			t.Errorf("%s from %v, of %v: the solution ends ahead of %d, but %v is told", l.name, begun, x, p.To, p)
			return
		}
		if !holds(p.All, v) || !holds(p.All, between) || !holds(p.All, end) || !holds(p.End, end) {
			t.Errorf("%s from %v, of %v: %v has not %v, %v, and %v at its end", l.name, begun, x, p, v, between, end)
			return
		}
		v = end
	}
}

func chance(seed int64) *rand.Rand { return rand.New(rand.NewSource(seed)) }

// eighths are from -amount to amount.
func eighths(r *rand.Rand, amount int) float64 {
	return float64(r.Intn(16*amount+1)-8*amount) / 8
}

func someMatrix(r *rand.Rand, many int) matrix {
	m := make(matrix, many)
	for i := range m {
		for range many {
			m[i] = append(m[i], eighths(r, 1))
		}
	}
	return m
}

// someIn is a float in a bounded interval: an end, the middle, or one between.
func someIn(r *rand.Rand, x api.Ival) float64 {
	switch r.Intn(5) {
	case 0:
		return x.Lo
	case 1:
		return x.Hi
	case 2:
		return ival.Mid(x)
	}
	return min(x.Hi, max(x.Lo, x.Lo+r.Float64()*(x.Hi-x.Lo)))
}

// someLaw is of one to four variables, with somewhere to begin at.
func someLaw(r *rand.Rand) (law, []float64) {
	somewhere := func(vars int) []float64 {
		var c []float64
		for range vars {
			c = append(c, eighths(r, 2))
		}
		return c
	}
	above := func() float64 { return 0.25 + r.Float64() }
	switch r.Intn(10) {
	case 0:
		return seesaw(), somewhere(2)
	case 1:
		return ray(), []float64{eighths(r, 2), above()}
	case 2:
		return rooted(), []float64{above(), above()}
	case 3:
		return cubes(), somewhere(2)
	case 4:
		return falling(), []float64{above()}
	case 5:
		return draining(), []float64{above()}
	case 6, 7:
		vars := 1 + r.Intn(4)
		return someSquares(vars), somewhere(vars)
	}
	vars := 1 + r.Intn(4)
	return line(someMatrix(r, vars), somewhere(vars)), somewhere(vars)
}

// boxFrom has components of at most a width, from c on.
func boxFrom(r *rand.Rand, c []float64, width float64) box {
	var x box
	for _, v := range c {
		x = append(x, ival.Make(v, v+width*[]float64{0, 1, r.Float64()}[r.Intn(3)]))
	}
	return x
}

// tally counts errors, so that a test sees whether it asked what it was to ask.
type tally map[api.Errno]int

func (c tally) wants(t *testing.T, many int, es ...api.Errno) {
	t.Helper()
	for _, e := range es {
		if c[e] < many {
			t.Errorf("only %d answers were %d: %v", c[e], e, c)
		}
	}
}
