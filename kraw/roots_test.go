package kraw_test

import (
	"math"
	"math/big"
	"math/rand"
	"slices"
	"testing"

	"orrery/api"
	"orrery/ival"
	"orrery/tape"
)

// withRoots lays the product of v less each of the roots behind t; v is an operation of t.
func withRoots(t *api.Tape, v int, roots []float64) int {
	product := -1
	for _, a := range roots {
		p := put(t, both(api.TSub, v, put(t, lit(a, a))))
		if product >= 0 {
			p = put(t, both(api.TMul, product, p))
		}
		product = p
	}
	return product
}

// withoutRoots lays v^2 and something behind t.
func withoutRoots(t *api.Tape, v int, more float64) int {
	return put(t, both(api.TAdd, put(t, pow(v, 2)), put(t, lit(more, more))))
}

// unequal are 1 to many eighths, no two the same.
func unequal(r *rand.Rand, many int) []float64 {
	var list []float64
	for range 1 + r.Intn(many) {
		if v := eighths(r, 2); !slices.Contains(list, v) {
			list = append(list, v)
		}
	}
	return list
}

// TestOneUnknown is P7.2 for products of v less their roots, without parameters, and for sums that have none.
func TestOneUnknown(t *testing.T) {
	r := chance(72)
	seen := tally{}
	for n := range 6000 {
		s, v := variables(1)
		x := box{someInterval(r, 2)}
		var roots [][]number
		if n%8 == 0 {
			s.Outs = []int{withoutRoots(&s, v[0], 0.5)}
		} else {
			list := unequal(r, 3)
			s.Outs = []int{withRoots(&s, v[0], list)}
			for _, a := range list {
				roots = append(roots, []number{exactly(a)})
			}
		}
		seen[askKnown(t, s, x, nil, roots).e]++
	}
	seen.wants(t, 500, api.OK, api.ErrRoot, api.ErrNone)
}

// mixed lays sums of the parts, as a regular matrix has them, behind t: they are all 0 just where all parts are.
func mixed(r *rand.Rand, t *api.Tape, parts []int) {
	for {
		var m [][]float64
		zeros := make([]number, len(parts))
		for i := range parts {
			m = append(m, nil)
			zeros[i] = whole(0)
			for range parts {
				m[i] = append(m[i], float64(r.Intn(7)-3))
			}
		}
		if solved(m, zeros) == nil {
			continue
		}
		for _, row := range m {
			t.Outs = append(t.Outs, linear(t, row, parts, 0))
		}
		return
	}
}

// crossed is each choice of one number of each list.
func crossed(lists [][]float64) [][]number {
	out := [][]number{nil}
	for _, list := range lists {
		var longer [][]number
		for _, v := range out {
			for _, a := range list {
				longer = append(longer, append(slices.Clone(v), exactly(a)))
			}
		}
		out = longer
	}
	return out
}

// around is an interval that has such a root near to its middle, most of the time.
func around(r *rand.Rand, root float64) api.Ival {
	if r.Intn(3) == 0 {
		return someInterval(r, 2)
	}
	side := func() float64 { return float64(1+r.Intn(8)) * []float64{0x1p-20, 0x1p-6, 0x1p-4}[r.Intn(3)] }
	return iv(root-side(), root+side())
}

// TestMoreUnknowns is P7.2 for two and three unknowns, whose parts have known roots.
func TestMoreUnknowns(t *testing.T) {
	r := chance(73)
	seen := tally{}
	for n := range 4000 {
		unknowns := 2 + n%2
		s, v := variables(unknowns)
		var lists [][]float64
		var parts []int
		var x box
		for i := range unknowns {
			lists = append(lists, unequal(r, 2))
			parts = append(parts, withRoots(&s, v[i], lists[i]))
			x = append(x, around(r, lists[i][0]))
		}
		mixed(r, &s, parts)
		seen[askKnown(t, s, x, nil, crossed(lists)).e]++
	}
	seen.wants(t, 300, api.OK, api.ErrRoot, api.ErrNone)
}

// injective is a function that has each value once, on numbers from 1/8 to 3.
func injective(r *rand.Rand, t *api.Tape, v int) int {
	switch kind := []int{api.TSqrt, api.TExp, api.TLog, api.TCos, api.TAtan, api.TSin, api.TPow, api.TDiv}[r.Intn(8)]; kind {
	case api.TSin:
		return put(t, of(kind, put(t, both(api.TMul, v, put(t, lit(0.5, 0.5))))))
	case api.TPow:
		return put(t, pow(v, []int{-3, -1, 2, 5}[r.Intn(4)]))
	case api.TDiv:
		return put(t, both(kind, put(t, lit(1, 1)), v))
	default:
		return put(t, of(kind, v))
	}
}

// TestFunctions is P7.2 for functions of v less those of a number: that is the root, exactly, whatever floats tell of both.
func TestFunctions(t *testing.T) {
	r := chance(74)
	seen := tally{}
	for n := range 3000 {
		unknowns := 1 + n%3
		s, v := variables(unknowns)
		var root []number
		var parts []int
		var x box
		for i := range unknowns {
			a := 1 + r.Float64()*1.5
			root = append(root, exactly(a))
			seed := r.Int63()
			f := injective(chance(seed), &s, v[i])
			g := injective(chance(seed), &s, put(&s, lit(a, a)))
			parts = append(parts, put(&s, both(api.TSub, f, g)))
			x = append(x, ival.Meet(around(r, a), iv(0.125, 3)))
			if x[i] == none {
				x[i] = iv(1, 2)
			}
		}
		mixed(r, &s, parts)
		seen[askKnown(t, s, x, nil, [][]number{root}).e]++
	}
	seen.wants(t, 100, api.OK, api.ErrRoot, api.ErrNone)
}

// TestRootsOfParameters is P7.2 for v v - q: for all numbers of p the root of q lies in x and in the box; or for some it does not.
func TestRootsOfParameters(t *testing.T) {
	r := chance(75)
	seen := tally{}
	for range 4000 {
		x := someInterval(r, 4)
		if x.Lo < 0 {
			x = iv(max(0, -x.Hi), max(-x.Lo, x.Hi))
		}
		q := someInterval(r, 8)
		a := ask(t, square(), box{x}, box{q})
		seen[a.e]++
		inAll := rootsLieIn(x, q)
		if a.e == api.OK && (!inAll || !rootsLieIn(a.box[0], q)) || a.e == api.ErrNone && inAll {
			t.Errorf("v v - q on %v, q in %v: %v", x, q, a)
		}
	}
	seen.wants(t, 100, api.OK, api.ErrRoot, api.ErrNone)
}

// rootsLieIn takes an x of 0 or more: it tells whether it holds the roots of all numbers of q.
func rootsLieIn(x, q api.Ival) bool {
	squared := func(v float64) number { return times(exactly(v), exactly(v)) }
	return squared(x.Lo).Cmp(exactly(q.Lo)) <= 0 && squared(x.Hi).Cmp(exactly(q.Hi)) >= 0
}

// corners are all vectors of ends.
func corners(p box) [][]number {
	var ends [][]float64
	for _, q := range p {
		ends = append(ends, []float64{q.Lo, q.Hi})
	}
	return crossed(ends)
}

// lineOfParameters is the tape of A v - q.
func lineOfParameters(a [][]float64) api.Tape {
	t, v := variables(2 * len(a))
	for i, row := range a {
		t.Outs = append(t.Outs, put(&t, both(api.TSub, linear(&t, row, v[:len(a)], 0), v[len(a)+i])))
	}
	return t
}

// TestLinesOfParameters is P7.2 for A v = q: as roots go with q in straight lines, those of p's corners tell of all.
func TestLinesOfParameters(t *testing.T) {
	r := chance(76)
	seen := tally{}
	for n := range 3000 {
		unknowns := 1 + n%3
		var a [][]float64
		var x, p box
		for i := range unknowns {
			a = append(a, nil)
			for range unknowns {
				a[i] = append(a[i], float64(r.Intn(9)-4))
			}
			x, p = append(x, someInterval(r, 4)), append(p, around(r, 0))
		}
		if solved(a, corners(p)[0]) == nil {
			continue
		}
		got := ask(t, lineOfParameters(a), x, p)
		seen[got.e]++
		inAll := true
		for _, q := range corners(p) {
			v := solved(a, q)
			inAll = inAll && holdsAll(x, v)
			if got.e == api.OK && !(holdsAll(x, v) && holdsAll(got.box, v)) {
				t.Errorf("%v v = %v on %v: %v, though %v is the root for %v", a, p, x, got, v, q)
			}
		}
		if got.e == api.ErrNone && inAll {
			t.Errorf("%v v = %v on %v: ErrNone, though all roots lie there", a, p, x)
		}
	}
	seen.wants(t, 50, api.OK, api.ErrRoot, api.ErrNone)
}

// TestWideConstants is P7.2 with constants of more than one number: what is told holds for each of these.
func TestWideConstants(t *testing.T) {
	r := chance(77)
	seen := tally{}
	for range 1500 {
		x, q := someInterval(r, 1), around(r, 4)
		x = iv(x.Lo+2, x.Hi+2)
		a := ask(t, lastOf(1, variable(0), both(api.TMul, 0, 0), lit(q.Lo, q.Hi), both(api.TSub, 1, 2)), box{x}, nil)
		seen[a.e]++
		someRoot := exactly(q.Hi).Cmp(times(exactly(x.Lo), exactly(x.Lo))) >= 0 && exactly(q.Lo).Cmp(times(exactly(x.Hi), exactly(x.Hi))) <= 0
		if a.e == api.OK && !(rootsLieIn(x, q) && rootsLieIn(a.box[0], q)) || a.e == api.ErrNone && someRoot {
			t.Errorf("v v - %v on %v: %v", q, x, a)
		}
	}
	seen.wants(t, 50, api.OK, api.ErrRoot, api.ErrNone)
}

// valueAt is what a tape of operations of arithmetic tells at numbers, exactly; none, where it has no value.
func valueAt(s api.Tape, at []number, lits []number) number {
	var values []number
	for i, o := range s.Ops {
		v := new(big.Rat)
		switch o.Kind {
		case api.TConst:
			v = lits[i]
		case api.TVar:
			v = at[o.N]
		case api.TAdd:
			v.Add(values[o.A], values[o.B])
		case api.TSub:
			v.Sub(values[o.A], values[o.B])
		case api.TMul:
			v.Mul(values[o.A], values[o.B])
		case api.TDiv:
			v.Quo(values[o.A], values[o.B])
		case api.TNeg:
			v.Neg(values[o.A])
		case api.TPow:
			v = whole(1)
			for range max(o.N, -o.N) {
				v = times(v, values[o.A])
			}
			if o.N < 0 {
				v.Inv(v)
			}
		}
		values = append(values, v)
	}
	return values[s.Outs[0]]
}

// someNumber is one of x, an end among them.
func someNumber(r *rand.Rand, x api.Ival) number {
	at := big.NewRat(int64(r.Intn(5)), 4)
	return plus(exactly(x.Lo), times(at, minus(exactly(x.Hi), exactly(x.Lo))))
}

// TestSigns is P7.2 for tapes by chance, of one unknown: with just one root that is no turn the value goes from one side of 0 to the other, in x and in the box; without one it stays where it is.
func TestSigns(t *testing.T) {
	r := chance(78)
	seen := tally{}
	for range 12000 {
		s := someTape(r, api.TPow, 2, 2+r.Intn(6), 1)
		x, p := someBox(r, 1), someBox(r, 1)
		if p[0].Hi-p[0].Lo > 0.5 {
			p = points(p[0].Lo)
		}
		if _, _, e := tape.Grad(s, slices.Concat(x, p)); e != api.OK {
			continue
		}
		a := ask(t, s, x, p)
		seen[a.e]++
		for range 3 {
			lits := make([]number, len(s.Ops))
			for i, o := range s.Ops {
				lits[i] = someNumber(r, o.Lit)
			}
			q := someNumber(r, p[0])
			sign := func(v number) int { return valueAt(s, []number{v, q}, lits).Sign() }
			lo, hi := sign(exactly(x[0].Lo)), sign(exactly(x[0].Hi))
			if a.e == api.ErrNone && (lo*hi <= 0 || sign(someNumber(r, x[0])) != lo) {
				t.Errorf("%v on %v, %v: ErrNone", s, x, p)
			}
			if a.e == api.OK && (lo*hi > 0 || sign(exactly(a.box[0].Lo))*sign(exactly(a.box[0].Hi)) > 0) {
				t.Errorf("%v on %v, %v: %v", s, x, p, a)
			}
		}
	}
	seen.wants(t, 300, api.OK, api.ErrRoot, api.ErrNone)
}

// TestEnds is P7.2 where a root lies at an end of x, or just beside it: v v - q is exact there.
func TestEnds(t *testing.T) {
	for _, root := range []float64{1, 1.5, 2, 3, 0x1p-10, 1000} {
		q := root * root
		before, behind := math.Nextafter(root, 0), math.Nextafter(root, inf)
		at := [][]number{{exactly(root)}}
		for _, far := range []float64{0x1p-30, 0.01, 0.2, 5} {
			lower, upper := root-far*root/6, root+far*root/6
			for _, x := range []api.Ival{iv(root, upper), iv(lower, root), iv(before, upper), iv(lower, behind), iv(behind, upper), iv(lower, before), point(root), point(before), point(behind), iv(before, root), iv(root, behind), iv(before, behind)} {
				askKnown(t, square(), box{x}, points(q), at)
			}
			if a := askKnown(t, square(), box{iv(upper, upper+far)}, points(q), at); a.e != api.ErrNone {
				t.Errorf("v v - %v from %v to %v: %v", q, upper, upper+far, a)
			}
		}
	}
}

// TestOneNumberEach has boxes of one vector: it is the only root, if its values are 0, whatever its slopes are.
func TestOneNumberEach(t *testing.T) {
	for _, v := range []float64{0, 1, -1.5, 1024} {
		if a := ask(t, square(), points(v), points(v*v)); a.e != api.OK || !slices.Equal(a.box, points(v)) {
			t.Errorf("v v - %v on {%v, %v}: %v", v*v, v, v, a)
		}
		if a := ask(t, square(), points(v), points(v*v+1)); a.e != api.ErrNone {
			t.Errorf("v v - %v on {%v, %v}: %v", v*v+1, v, v, a)
		}
		if a := ask(t, square(), points(v), box{iv(v*v-1, v*v+1)}); a.e == api.OK {
			t.Errorf("v v - q, q near %v, on {%v, %v}: %v", v*v, v, v, a)
		}
	}
	third := lastOf(1, variable(0), lit(3, 3), both(api.TMul, 0, 1), lit(1, 1), both(api.TSub, 2, 3))
	askKnown(t, third, points(1.0/3), nil, nil) // 1/3 is no float
	still := api.Tape{Vars: 2, Ops: []op{lit(0, 0)}, Outs: []int{0, 0}}
	if a := ask(t, still, points(1, 2), nil); a.e != api.OK || !slices.Equal(a.box, points(1, 2)) {
		t.Error("0 on one vector:", a)
	}
	for _, x := range []box{{iv(0, 1), point(2)}, {point(1), iv(0, 2)}, {iv(0, 1), iv(0, 1)}} {
		if a := ask(t, still, x, nil); a.e != api.ErrRoot {
			t.Errorf("0 on %v: %v", x, a)
		}
	}
}

// TestSomeOfOneNumber is P7.2 for boxes of which some components have one number.
func TestSomeOfOneNumber(t *testing.T) {
	line := lineOf([][]float64{{1, 0}, {-1, 1}}, []float64{1, 0}) // v0 = 1, v1 = v0
	one := [][]number{{whole(1), whole(1)}}
	for _, x := range []box{{point(1), iv(0, 3)}, {iv(0, 3), point(1)}, {point(1), point(1)}, {iv(0, 1), iv(1, 2)}} {
		if a := askKnown(t, line, x, nil, one); a.e != api.OK {
			t.Errorf("v0 = 1, v1 = v0 on %v: %v", x, a)
		}
	}
	for _, x := range []box{{point(2), iv(0, 3)}, {iv(0, 3), point(2)}, {point(1), point(2)}, {point(1), iv(1.5, 2)}} {
		if a := askKnown(t, line, x, nil, one); a.e != api.ErrNone {
			t.Errorf("v0 = 1, v1 = v0 on %v: %v", x, a)
		}
	}
}

// TestManyRoots is P7.2 where there are more than one, or as many as one likes: never OK, never ErrNone.
func TestManyRoots(t *testing.T) {
	v, w := variable(0), variable(1)
	for _, c := range []struct {
		name string
		s    api.Tape
		x, p box
	}{
		{"v v - 2", lastOf(1, v, pow(0, 2), lit(2, 2), both(api.TSub, 1, 2)), box{iv(-1.5, 3)}, nil},
		{"v^3 - v", lastOf(1, v, pow(0, 3), both(api.TSub, 1, 0)), box{iv(-2, 0.5)}, nil},
		{"v^3 - v", lastOf(1, v, pow(0, 3), both(api.TSub, 1, 0)), box{iv(-1, 1)}, nil},
		{"sin v", lastOf(1, v, of(api.TSin, 0)), box{iv(-1, 4)}, nil},
		{"cos v", lastOf(1, v, of(api.TCos, 0)), box{iv(-100, 100)}, nil},
		{"v - v", lastOf(1, v, both(api.TSub, 0, 0)), box{iv(0, 1)}, nil},
		{"0 v", lastOf(1, v, lit(0, 0), both(api.TMul, 0, 1)), box{iv(0, 1)}, nil},
		{"v0 - v1 twice", api.Tape{Vars: 2, Ops: []op{v, w, both(api.TSub, 0, 1)}, Outs: []int{2, 2}}, box{iv(0, 1), iv(0, 1)}, nil},
		{"v0^2 - v1, v0 - v1", api.Tape{Vars: 2, Ops: []op{v, w, pow(0, 2), both(api.TSub, 2, 1), both(api.TSub, 0, 1)}, Outs: []int{3, 4}}, box{iv(-1, 2), iv(-1, 2)}, nil},
		{"q v, q from 0 on", lastOf(2, v, w, both(api.TMul, 0, 1)), box{iv(-1, 1)}, box{iv(0, 2)}},
	} {
		if a := ask(t, c.s, c.x, c.p); a.e != api.ErrRoot {
			t.Errorf("%s on %v: %v", c.name, c.x, a)
		}
	}
}

// TestSlowAtFirst has wide boxes, of which the first rounds leave nearly all: the root is found, and narrowly.
func TestSlowAtFirst(t *testing.T) {
	for _, x := range []api.Ival{iv(0.1, 10), iv(0.01, 3), iv(0x1p-9, 2.5), iv(1, 5)} {
		if a := ask(t, square(), box{x}, points(2)); a.e != api.OK || !rootsLieIn(a.box[0], point(2)) || ival.Wid(a.box[0]) > 0x1p-40 {
			t.Errorf("v v - 2 on %v: %v", x, a)
		}
	}
}
