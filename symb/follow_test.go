package symb_test

import (
	"math"
	"math/bits"
	"testing"

	"orrery/api"
)

// All that is told in 'What follows' is tried at numbers of a field of 2^61 - 1 of them, in which sums, products and quotients have their laws, and no number lacks room. Roots and functions beyond roots are others in it than among reals; that they are what the rules say where they say it, at 0 and 1, is all that is asked of them.

const prime = 1<<61 - 1

// field is what functions are, and what variables and the time are put in for.
type field struct {
	factor [api.TAtan + 1]uint64
	values map[api.Key]uint64
	time   uint64
}

func sum(a, b uint64) uint64 { return (a + b) % prime }

func minus(a uint64) uint64 { return (prime - a) % prime }

func times(a, b uint64) uint64 {
	hi, lo := bits.Mul64(a, b)
	_, r := bits.Div64(hi, lo, prime)
	return r
}

func raised(a, n uint64) uint64 {
	p := uint64(1)
	for ; n > 0; n >>= 1 {
		if n&1 == 1 {
			p = times(p, a)
		}
		a = times(a, a)
	}
	return p
}

func inverse(a uint64) uint64 { return raised(a, prime-2) }

func ofInt(n int64) uint64 {
	if n < 0 {
		return minus(uint64(-n) % prime)
	}
	return uint64(n) % prime
}

func isNegative(a uint64) bool { return a > prime/2 }

// value is a number, if there is one, and how fast it goes, if that is known.
type value struct {
	is, goes       uint64
	exists, smooth bool
}

func known(is, goes uint64) value { return value{is, goes, true, true} }

func (d drawn) field() field {
	f := field{values: map[api.Key]uint64{}, time: d.inField()}
	for kind := range f.factor {
		f.factor[kind] = 2 + d.Uint64()%(prime-4)
	}
	for v := range 3 {
		for k := range 8 {
			f.values[api.Key{V: v, K: k}] = d.inField()
		}
	}
	return f
}

func (d drawn) inField() uint64 {
	return pick(d, 0, 1, prime-1, 2, d.Uint64()%prime, d.Uint64()%prime, d.Uint64()%prime)
}

// all are the values of all nodes.
func (f field) all(nodes []api.Node) []value {
	values := make([]value, len(nodes))
	for i, n := range nodes {
		switch needs(n.Kind) {
		case 0:
			values[i] = f.leaf(n)
		case 1:
			values[i] = f.one(n, values[n.A])
		case 2:
			values[i] = f.two(n.Kind, values[n.A], values[n.B])
		}
	}
	return values
}

func (f field) leaf(n api.Node) value {
	switch n.Kind {
	case api.TConst:
		return known(times(ofInt(n.Num.N), inverse(ofInt(n.Num.D))), 0)
	case api.TVar:
		return known(f.values[n.Key], f.values[api.Key{V: n.Key.V, K: n.Key.K + 1}])
	}
	return known(f.time, 1)
}

func (f field) two(kind int, a, b value) value {
	v := value{exists: a.exists && b.exists, smooth: a.smooth && b.smooth}
	switch kind {
	case api.TAdd:
		v.is, v.goes = sum(a.is, b.is), sum(a.goes, b.goes)
	case api.TSub:
		v.is, v.goes = sum(a.is, minus(b.is)), sum(a.goes, minus(b.goes))
	case api.TMul:
		v.is, v.goes = times(a.is, b.is), sum(times(a.goes, b.is), times(a.is, b.goes))
	case api.TDiv:
		v.exists = v.exists && b.is != 0
		v.is = times(a.is, inverse(b.is))
		v.goes = times(sum(times(a.goes, b.is), minus(times(a.is, b.goes))), inverse(times(b.is, b.is)))
	}
	return v
}

func (f field) one(n api.Node, a value) value {
	v := a
	switch n.Kind {
	case api.TNeg:
		v.is, v.goes = minus(a.is), minus(a.goes)
	case api.TPow:
		return f.power(n.N, a)
	case api.TSqrt: // a root that is its square's only at 0 and 1: half of its inverse tells how fast it goes
		v.exists, v.smooth = a.exists && !isNegative(a.is), a.smooth && f.at(n.Kind, a.is) != 0
		v.goes = times(a.goes, inverse(times(2, f.at(n.Kind, a.is))))
	case api.TExp:
		v.goes = times(f.at(n.Kind, a.is), a.goes)
	case api.TLog:
		v.exists = a.exists && a.is != 0 && !isNegative(a.is)
		v.goes = times(a.goes, inverse(a.is))
	case api.TSin:
		v.goes = times(f.at(api.TCos, a.is), a.goes)
	case api.TCos:
		v.goes = minus(times(f.at(api.TSin, a.is), a.goes))
	case api.TAtan:
		below := sum(1, times(a.is, a.is))
		v.smooth = a.smooth && below != 0 // among reals it is never 0
		v.goes = times(a.goes, inverse(below))
	}
	if n.Kind >= api.TSqrt {
		v.is = f.at(n.Kind, a.is)
	}
	return v
}

func (f field) power(n int, a value) value {
	v := value{exists: a.exists, smooth: a.smooth}
	base := a.is
	if n < 0 {
		v.exists = a.exists && a.is != 0
		base = inverse(a.is)
	}
	v.is = raised(base, uint64(max(n, -n)))
	switch {
	case n == 0:
		v.smooth = a.exists
	case n > 0:
		v.goes = times(times(ofInt(int64(n)), raised(a.is, uint64(n-1))), a.goes)
	case n < 0:
		v.goes = times(times(ofInt(int64(n)), raised(base, uint64(1-n))), a.goes)
	}
	return v
}

// at is a root, or a function beyond roots, at a number.
func (f field) at(kind int, a uint64) uint64 {
	c := f.factor[kind]
	switch kind {
	case api.TSqrt:
		return times(times(a, sum(a, c)), inverse(sum(1, c)))
	case api.TExp, api.TCos:
		return sum(1, times(c, a))
	case api.TLog:
		return times(c, sum(a, minus(1)))
	}
	return times(c, a) // TSin, TAtan
}

// What is built has a value wherever the first graph has one, and there only, and the same.
func TestValuesStay(t *testing.T) {
	there, lack := 0, 0
	for seed := range int64(6000) {
		d := draw(100000 + seed)
		g := d.graph()
		got, e := build(g)
		if e != api.OK {
			t.Fatal(g, e)
		}
		for range 4 {
			f := d.field()
			first, then := f.all(g.nodes), f.all(got.nodes)
			for i, r := range g.roots {
				a, b := first[r], then[got.roots[i]]
				if a.exists != b.exists || a.exists && a.is != b.is {
					t.Fatalf("%v, built %v: at %v root %d is %v, then %v", g, got, f, i, a, b)
				}
				if a.exists {
					there++
				} else {
					lack++
				}
			}
		}
	}
	if there < 10000 || lack < 2000 {
		t.Error(there, lack)
	}
}

// In what is built no two nodes are the same, each is needed, and built again it stays.
func TestBuiltAgain(t *testing.T) {
	for seed := range int64(6000) {
		d := draw(200000 + seed)
		g := d.graph()
		got, _ := build(g)
		checkClear(t, g, got)
		if got, e := diff(g); e == api.OK {
			checkClear(t, g, asked{nodes: got.nodes, roots: append(got.roots, got.rates...)})
		}
	}
}

func checkClear(t *testing.T, g, got asked) {
	t.Helper()
	seen := map[api.Node]int{}
	for i, n := range got.nodes {
		if at, ok := seen[n]; ok {
			t.Fatalf("%v: %v has %d and %d", g, got, at, i)
		}
		seen[n] = i
	}
	if all := insideAll(got.nodes, got.roots); len(all) != len(got.nodes) {
		t.Fatalf("%v: %v, of which %v are needed", g, got, all)
	}
	if again, e := build(got); e != api.OK || !again.same(got) {
		t.Fatalf("%v: %v, and again %v, %d", g, got, again, e)
	}
}

// A derivative is how fast its root goes, with the derivatives of variables put in, and the roots' graph is as Build makes it.
func TestDerivativesByChance(t *testing.T) {
	there := 0
	for seed := range int64(6000) {
		d := draw(300000 + seed)
		g := d.graph()
		got, e := diff(g)
		if e != api.OK {
			continue
		}
		for range 4 {
			f := d.field()
			first, then := f.all(g.nodes), f.all(got.nodes)
			for i, r := range g.roots {
				a, v, b := first[r], then[got.roots[i]], then[got.rates[i]]
				if a.exists != v.exists || a.exists && a.is != v.is {
					t.Fatalf("%v, %v: at %v root %d is %v, then %v", g, got, f, i, a, v)
				}
				if a.exists && a.smooth && (!b.exists || a.goes != b.is) {
					t.Fatalf("%v, %v: at %v root %d goes %v, told %v", g, got, f, i, a, b)
				}
				if a.exists && a.smooth && b.is != 0 {
					there++
				}
			}
		}
	}
	if there < 3000 {
		t.Error(there)
	}
}

// curves are what variables are at a time, in floats: c0 + c1 t + c2 t^2 + ..
type curves [3][6]float64

func (c curves) at(k api.Key, t float64) float64 {
	list := c[k.V]
	for range k.K {
		for i := range 5 {
			list[i] = list[i+1] * float64(i+1)
		}
		list[5] = 0
	}
	is := 0.0
	for i := 5; i >= 0; i-- {
		is = is*t + list[i]
	}
	return is
}

// real are the values of all nodes in floats; no number, where there is none.
func (c curves) real(nodes []api.Node, t float64) []float64 {
	v := make([]float64, len(nodes))
	for i, n := range nodes {
		switch n.Kind {
		case api.TConst:
			v[i] = float64(n.Num.N) / float64(n.Num.D)
		case api.TVar:
			v[i] = c.at(n.Key, t)
		case api.TTime:
			v[i] = t
		default:
			v[i] = realOf(n, v)
		}
	}
	return v
}

func realOf(n api.Node, v []float64) float64 {
	a, b := v[n.A], v[n.B]
	switch n.Kind {
	case api.TAdd:
		return a + b
	case api.TSub:
		return a - b
	case api.TMul:
		return a * b
	case api.TDiv:
		return a / b
	case api.TNeg:
		return -a
	case api.TPow:
		return math.Pow(a, float64(n.N))
	case api.TSqrt:
		return math.Sqrt(a)
	}
	return map[int]func(float64) float64{api.TExp: math.Exp, api.TLog: math.Log, api.TSin: math.Sin, api.TCos: math.Cos, api.TAtan: math.Atan}[n.Kind](a)
}

// Among reals, too: values a little ahead and behind tell how fast they go.
func TestHowFast(t *testing.T) {
	held, apart := map[int]int{}, 0
	for seed := range int64(20000) {
		d := draw(400000 + seed)
		g := d.graph()
		g.roots = []int{len(g.nodes) - 1}
		if len(g.nodes) > 12 {
			continue
		}
		got, e := diff(g)
		if e != api.OK {
			continue
		}
		var c curves
		for v := range c {
			for i := range c[v] {
				c[v][i] = d.NormFloat64()
			}
		}
		at, root := 0.3+d.Float64(), g.roots[0]
		slope := func(h float64) float64 { return (c.real(g.nodes, at+h)[root] - c.real(g.nodes, at-h)[root]) / (2 * h) }
		near, far := slope(1e-5), slope(2e-5)
		size := max(1, math.Abs(near))
		for i := range inside(g.nodes, root) { // great ones leave little of what is between them
			size = max(size, math.Abs(c.real(g.nodes, at)[i]))
		}
		if !(size < 1e3) || !(math.Abs(near-far) < 1e-7*size) {
			continue
		}
		told := c.real(got.nodes, at)[got.rates[0]]
		if math.IsNaN(told) || math.IsInf(told, 0) { // of the root of what is always 0
			apart++
			continue
		}
		if !(math.Abs(told-near) < 1e-5*size) {
			t.Fatalf("%v, %v: at %v goes %v, told %v", g, got, at, near, told)
		}
		for i := range inside(g.nodes, root) {
			held[g.nodes[i].Kind]++
		}
	}
	for _, kind := range kinds() {
		if held[kind] < 100 || apart > 50 {
			t.Errorf("kind %d: %d; %d were apart", kind, held[kind], apart)
		}
	}
}
