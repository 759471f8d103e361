package unit_test

import (
	"math/big"
	"reflect"
	"slices"
	"testing"

	"orrery/api"
	"orrery/unit"
)

// exactly are a dimension's exponents, of which no room is asked.
type exactly [7]big.Rat

func exact(d api.Dim) (x exactly) {
	for i, e := range d.E {
		x[i].SetFrac64(e.N, e.D)
	}
	return x
}

func (x exactly) times(y exactly, p *big.Rat) (out exactly) {
	for i := range x {
		out[i].Add(&x[i], out[i].Mul(&y[i], p))
	}
	return out
}

func (x exactly) same(y exactly) bool {
	for i := range x {
		if x[i].Cmp(&y[i]) != 0 {
			return false
		}
	}
	return true
}

// fits tells whether all that equations need fits, if variables have these dimensions.
func (k question) fits(dims []api.Dim) bool {
	zero := exact(plain())
	second := exact(k.second)
	of := make([]exactly, len(k.nodes))
	needed := k.needed()
	for i, n := range k.nodes {
		if !needed[i] {
			continue
		}
		free := func(j int) bool { return k.nodes[j].Kind == api.TConst && k.nodes[j].Num.N == 0 }
		switch n.Kind {
		case api.TConst:
			of[i] = exact(n.Dim)
		case api.TVar:
			of[i] = exact(dims[n.Key.V]).times(second, big.NewRat(int64(-n.Key.K), 1))
		case api.TTime:
			of[i] = second
		case api.TAdd, api.TSub:
			of[i] = of[n.A]
			if free(n.A) {
				of[i] = of[n.B]
			} else if !free(n.B) && !of[n.A].same(of[n.B]) {
				return false
			}
		case api.TMul:
			of[i] = of[n.A].times(of[n.B], big.NewRat(1, 1))
		case api.TDiv:
			of[i] = of[n.A].times(of[n.B], big.NewRat(-1, 1))
		case api.TNeg:
			of[i] = of[n.A]
		case api.TPow:
			of[i] = zero.times(of[n.A], big.NewRat(int64(n.N), 1))
		case api.TSqrt:
			of[i] = zero.times(of[n.A], big.NewRat(1, 2))
		default:
			if !free(n.A) && !of[n.A].same(zero) {
				return false
			}
			of[i] = zero
		}
	}
	return true
}

// loose is a question whose nodes are left to chance.
func (d drawn) loose(dimension func() api.Dim, power func() int) question {
	var g graph
	vars := make([]api.Dim, 1+d.Intn(6))
	for i := range vars {
		if d.Intn(3) == 0 {
			vars[i] = dimension()
		}
	}
	for range 2 + d.Intn(30) {
		n := api.Node{Kind: pick(d, kinds()...), N: power(), Num: pick(d, q(0, 1), q(1, 1), q(-2, 3)), Dim: dimension()}
		if d.Intn(5) < 2 || len(g.nodes) == 0 {
			n.Kind = pick(d, api.TConst, api.TVar, api.TVar, api.TVar, api.TTime)
		}
		n.Key = api.Key{V: d.Intn(len(vars)), K: max(0, d.Intn(9)-5)}
		if len(g.nodes) > 0 {
			n.A, n.B = d.Intn(len(g.nodes)), d.Intn(len(g.nodes))
		}
		g.put(n)
	}
	k := g.ask(vars)
	for range d.Intn(6) {
		k.eqs = append(k.eqs, len(g.nodes)-1-d.Intn(min(len(g.nodes), 12)))
	}
	k.second = pick(d, dim(0, 1), dim(0, 1), plain(), dimension())
	return k
}

// fitting is a question that has an answer: all nodes fit with dimensions that were drawn ahead, of which some are not given.
func (d drawn) fitting(size int) question {
	var g graph
	var of []api.Dim // of nodes, as far as they are told
	hidden := make([]api.Dim, 1+d.Intn(8))
	for i := range hidden {
		hidden[i] = d.dim()
	}
	second := pick(d, dim(0, 1), d.dim())
	put := func(n api.Node, a, b api.Dim, p api.Rat) int {
		x, e := wantTimes(a, b, p)
		if e != api.OK {
			panic(e)
		}
		of = append(of, x)
		return g.put(n)
	}
	var eqs []int
	for len(g.nodes) < size {
		v := api.Key{V: d.Intn(len(hidden)), K: max(0, d.Intn(6)-3)}
		a := put(api.Node{Kind: api.TVar, Key: v}, hidden[v.V], second, q(int64(-v.K), 1))
		other := d.Intn(len(of))
		switch d.Intn(9) {
		case 0:
			a = put(api.Node{Kind: api.TMul, A: a, B: other}, of[a], of[other], q(1, 1))
		case 1:
			a = put(api.Node{Kind: api.TDiv, A: other, B: a}, of[other], of[a], q(-1, 1))
		case 2:
			n := pick(d, -1, 2, 3, 0)
			a = put(api.Node{Kind: api.TPow, A: a, N: n}, plain(), of[a], q(int64(n), 1))
		case 3:
			a = put(api.Node{Kind: api.TSqrt, A: a}, plain(), of[a], q(1, 2))
		case 4:
			a = put(api.Node{Kind: api.TNeg, A: a}, of[a], plain(), q(0, 1))
		case 5:
			a = put(api.Node{Kind: api.TMul, A: put(api.Node{Kind: api.TTime}, second, plain(), q(0, 1)), B: a}, second, of[a], q(1, 1))
		}
		ratio := put(api.Node{Kind: api.TDiv, A: a, B: other}, of[a], of[other], q(-1, 1))
		scale := put(api.Node{Kind: api.TConst, Num: q(3, 1), Dim: of[ratio]}, of[ratio], plain(), q(0, 1))
		switch d.Intn(4) {
		case 0: // a number brings the ratio to a plain one
			plainOne := put(api.Node{Kind: api.TDiv, A: ratio, B: scale}, plain(), plain(), q(1, 1))
			eqs = append(eqs, put(api.Node{Kind: pick(d, functions()...), A: plainOne}, plain(), plain(), q(1, 1)))
		case 1:
			scaled := put(api.Node{Kind: api.TMul, A: scale, B: other}, of[a], plain(), q(1, 1))
			eqs = append(eqs, put(api.Node{Kind: pick(d, api.TAdd, api.TSub), A: a, B: scaled}, of[a], plain(), q(0, 1)))
		case 2:
			zero := put(api.Node{Kind: api.TConst, Num: q(0, 1), Dim: d.dim()}, plain(), plain(), q(0, 1))
			of[zero] = g.nodes[zero].Dim
			eqs = append(eqs, put(api.Node{Kind: api.TAdd, A: zero, B: a}, of[a], plain(), q(0, 1)), put(api.Node{Kind: api.TSub, A: a, B: zero}, of[a], plain(), q(0, 1)))
		case 3:
			eqs = append(eqs, put(api.Node{Kind: api.TSub, A: ratio, B: scale}, of[ratio], plain(), q(0, 1)))
		}
	}
	for i, x := range of { // what grows too far would have no room
		if slices.ContainsFunc(x.E[:], func(e api.Rat) bool { return e.N > 1<<30 || e.N < -1<<30 || e.D > 1<<20 }) {
			eqs = slices.DeleteFunc(eqs, func(eq int) bool { return eq >= i })
			break
		}
	}
	k := question{nodes: g.nodes, eqs: eqs, vars: hidden, second: second}
	for v := range hidden {
		k.given = append(k.given, d.Intn(3) == 0)
		if !k.given[v] {
			k.vars[v] = unknown()
		}
	}
	return k
}

// TestFitting is P14.4 of what has an answer, and P14.5.
func TestFitting(t *testing.T) {
	t.Parallel()
	told := 0
	for seed := range int64(3000) {
		k := draw(seed).fitting(1 + int(seed)%60)
		if e := checkByWords(t, k); e != api.OK {
			if e != api.ErrOver {
				t.Fatal(seed, e)
			}
			continue
		}
		dims, _ := unit.Infer(k.nodes, k.eqs, k.vars, k.given, k.second)
		checkFollows(t, k, dims)
		for v, d := range dims {
			if !k.given[v] && d != plain() {
				told++
				break
			}
		}
	}
	if told < 1500 {
		t.Error(told)
	}
}

// checkFollows is P14.5: with what was told given, the same is told, and everything fits.
func checkFollows(t *testing.T, k question, dims []api.Dim) {
	t.Helper()
	if !k.fits(dims) {
		t.Errorf("%v: %v does not fit", k, dims)
	}
	given := slices.Repeat([]bool{true}, len(dims))
	if again, e := unit.Infer(k.nodes, k.eqs, dims, given, k.second); e != api.OK || !slices.Equal(again, dims) {
		t.Errorf("%v: %v, given again: %v %d", k, dims, again, e)
	}
}

func TestLoose(t *testing.T) {
	t.Parallel()
	told := map[api.Errno]int{}
	d := draw(5)
	for range 20000 {
		k := d.loose(d.dim, func() int { return d.Intn(7) - 3 })
		e := checkByWords(t, k)
		told[e]++
		if e == api.OK {
			dims, _ := unit.Infer(k.nodes, k.eqs, k.vars, k.given, k.second)
			checkFollows(t, k, dims)
		}
	}
	if told[api.OK] < 5000 || told[api.ErrUnit] < 2000 {
		t.Error(told)
	}
}

// TestWild has exponents that may hardly be, and some that may not.
func TestWild(t *testing.T) {
	t.Parallel()
	told := map[api.Errno]int{}
	d := draw(6)
	for range 20000 {
		dimension := func() api.Dim {
			if d.Intn(3) > 0 {
				return d.wildDim()
			}
			return d.dim()
		}
		k := d.loose(dimension, func() int { return d.Intn(129) - 64 })
		if d.Intn(4) == 0 {
			d.spoil(&k)
		}
		told[checkByWords(t, k)]++
	}
	for _, e := range []api.Errno{api.OK, api.ErrArg, api.ErrOver, api.ErrUnit, api.ErrGraph} {
		if told[e] < 500 {
			t.Error(told)
		}
	}
}

// system is rules of products of unknowns' powers, some of them sums or differences of those ahead.
func (d drawn) system(wild bool) question {
	var g graph
	vars := make([]api.Dim, 2+d.Intn(5))
	var products []int
	for range 1 + d.Intn(8) {
		n := g.num(1, d.dim())
		if wild && d.Intn(3) == 0 {
			g.nodes[n].Dim = d.wildDim()
		}
		for v := range vars {
			switch d.Intn(5) {
			case 0:
				n = g.mul(g.x(v), n)
			case 1:
				n = g.op(api.TDiv, n, g.pow(g.x(v), 1+d.Intn(5)))
			case 2:
				x := g.pow(g.of(api.TSqrt, g.x(v)), d.Intn(9)-4)
				for wild && d.Intn(3) > 0 {
					x = g.pow(x, pick(d, 64, -63, 3))
				}
				n = g.mul(n, x)
			}
		}
		if len(products) > 0 && d.Intn(5) == 0 {
			n = g.mul(pick(d, products...), g.pow(pick(d, products...), d.Intn(5)-2))
		}
		products = append(products, n)
	}
	k := g.ask(vars)
	for _, n := range products {
		k.eqs = append(k.eqs, g.of(pick(d, functions()...), n))
	}
	k.nodes = g.nodes
	return k
}

func TestSystems(t *testing.T) {
	t.Parallel()
	told := map[api.Errno]int{}
	d := draw(7)
	for range 6000 {
		e := checkByWords(t, d.system(true))
		told[e]++
	}
	if told[api.OK] < 1000 || told[api.ErrUnit] < 1000 || told[api.ErrOver] < 500 {
		t.Error(told)
	}
	for range 2000 {
		k := d.system(false)
		if checkByWords(t, k) == api.OK {
			dims, _ := unit.Infer(k.nodes, k.eqs, k.vars, k.given, k.second)
			checkFollows(t, k, dims)
		}
	}
}

// spoil makes one thing wrong, or two; where it is not needed, nothing comes of it.
func (d drawn) spoil(k *question) {
	k.nodes = slices.Clone(k.nodes)
	for range 1 + d.Intn(2) {
		n := &k.nodes[d.Intn(len(k.nodes))]
		switch d.Intn(9) {
		case 0:
			n.A = pick(d, -1, len(k.nodes))
		case 1:
			n.B = pick(d, -1, len(k.nodes))
		case 2:
			n.Key = pick(d, api.Key{V: -1}, api.Key{K: 7}, api.Key{V: len(k.vars)})
		case 3:
			n.N = pick(d, 65, -65)
		case 4:
			n.Num, n.Dim = pick(d, wrong()...), pick(d, wrongDims()...)
		case 5:
			k.second = pick(d, wrongDims()...)
		case 6:
			k.vars[d.Intn(len(k.vars))] = pick(d, wrongDims()...)
		case 7:
			k.given = k.given[:len(k.given)-1]
			return
		case 8:
			k.eqs = append(k.eqs, pick(d, -1, len(k.nodes)))
		}
	}
}

// TestChains has rules one behind the other, which free many of one another, as far as a graph may be.
func TestChains(t *testing.T) {
	t.Parallel()
	const n = 1330
	var g graph
	vars := make([]api.Dim, n)
	for v := range vars {
		g.x(v)
	}
	m := g.num(1, dim(1))
	var eqs []int
	for v := range n - 1 { // each is the next one in m
		eqs = append(eqs, g.sub(v, g.mul(v+1, m)))
	}
	eqs = append(eqs, g.sub(n-1, g.pow(m, -64)))
	dims, e := unit.Infer(g.nodes, eqs, vars, make([]bool, n), dim(0, 1))
	if e != api.OK {
		t.Fatal(e)
	}
	for v, d := range dims {
		if d != dim(int64(n-1-v-64)) {
			t.Fatal(v, d)
		}
	}
	checkFollows(t, g.ask(make([]api.Dim, n), eqs...), dims)
}

// TestNothingIsShared is R1 and R4: arguments stay, answers are new, and the same each time.
func TestNothingIsShared(t *testing.T) {
	for seed := range int64(300) {
		k := draw(seed).fitting(20)
		nodes, eqs, vars, given := slices.Clone(k.nodes), slices.Clone(k.eqs), slices.Clone(k.vars), slices.Clone(k.given)
		dims, e := unit.Infer(k.nodes, k.eqs, k.vars, k.given, k.second)
		first := slices.Clone(dims)
		clear(dims)
		if !slices.Equal(nodes, k.nodes) || !slices.Equal(eqs, k.eqs) || !slices.Equal(vars, k.vars) || !slices.Equal(given, k.given) {
			t.Fatal("arguments were changed")
		}
		if again, e2 := unit.Infer(k.nodes, k.eqs, k.vars, k.given, k.second); e2 != e || !slices.Equal(again, first) {
			t.Fatal("another answer")
		}
	}
	text := "unit m; unit s; unit v = m / s; model A end; unit w = v^(1/2);"
	f, names := parsed(t, text), []string{"m", "s", "v", "w"}
	for range 3 {
		gotNames, dims, _ := unit.Units(f)
		if !slices.Equal(gotNames, names) || dims[2] != dim(1, -1) || !reflect.DeepEqual(f, parsed(t, text)) {
			t.Fatal(gotNames, dims)
		}
		tr := div(name("w"), name("v"))
		before := slices.Clone(dims)
		if d, e := unit.Of(tr, gotNames, dims); e != api.OK || d.E[0] != q(-1, 2) || !slices.Equal(gotNames, names) || !slices.Equal(dims, before) || !reflect.DeepEqual(tr, div(name("w"), name("v"))) {
			t.Fatal(d, e)
		}
		clear(gotNames)
		clear(dims)
	}
}
