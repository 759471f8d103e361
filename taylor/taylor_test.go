package taylor_test

import (
	"math"
	"math/big"
	"slices"
	"testing"

	"orrery/api"
	"orrery/ival"
	"orrery/taylor"
)

// askError asks both calls: the same error, and nothing beside it.
func askError(t *testing.T, name string, s api.Tape, x box, order int, want api.Errno) {
	t.Helper()
	if c, e := taylor.Coefs(s, x, order); e != want || c != nil {
		t.Errorf("%s: Coefs(%v, %v, %d) = %v, %d, want the error %d", name, s, x, order, c, e, want)
	}
	if c, d, e := taylor.Slopes(s, x, order); e != want || c != nil || d != nil {
		t.Errorf("%s: Slopes(%v, %v, %d) = %v, %v, %d, want the error %d", name, s, x, order, c, d, e, want)
	}
}

// TestExamples has all rows of the chapter's examples.
func TestExamples(t *testing.T) {
	c, e := taylor.Coefs(lastOf(variable(0)), points(1), 3)
	if e != api.OK || len(c) != 4 || !sameRows(c[:3], []box{points(1), points(1), points(0.5)}) || len(c[3]) != 1 || !holds(c[3][0], big.NewRat(1, 6)) {
		t.Error("x' = x0:", c, e)
	}
	c, e = taylor.Coefs(lastOf(variable(0), both(api.TMul, 0, 0)), points(2), 3)
	if e != api.OK || !sameRows(c, []box{points(2), points(4), points(8), points(16)}) {
		t.Error("x' = x0 x0:", c, e)
	}
	_, d, e := taylor.Slopes(lastOf(variable(0), lit(3, 3), both(api.TMul, 1, 0)), box{iv(1, 2)}, 2)
	if e != api.OK || !sameTables(d, [][]box{{points(1)}, {points(3)}, {points(4.5)}}) {
		t.Error("slopes of x' = 3 x0:", d, e)
	}
	askError(t, "x' = 1 / x0", lastOf(variable(0), lit(1, 1), both(api.TDiv, 1, 0)), box{iv(0, 1)}, 1, api.ErrDomain)
}

// wrongTapes may not be.
func wrongTapes() []api.Tape {
	x0 := variable(0)
	return []api.Tape{
		{Vars: -1},
		{Vars: 65, Ops: []op{x0}, Outs: make([]int, 65)},
		{Vars: 1, Outs: []int{0}},
		lastOf(variable(1)),
		lastOf(variable(-1)),
		lastOf(x0, of(api.TNeg, 1)),
		lastOf(x0, both(api.TAdd, 0, 1)),
		lastOf(x0, both(api.TMul, -1, 0)),
		lastOf(x0, pow(0, 65)),
		lastOf(x0, pow(0, -65)),
		lastOf(x0, op{Kind: 0}),
		lastOf(x0, op{Kind: 15}),
		lastOf(x0, op{Kind: api.TConst, Lit: none}),
		lastOf(x0, lit(2, 1)),
		lastOf(x0, lit(nan, 1)),
		lastOf(x0, lit(minus0, 1)),
		{Vars: 1, Ops: []op{x0}, Outs: []int{1}},
		{Vars: 1, Ops: []op{x0}, Outs: []int{-1}},
		{Vars: 1, Ops: slices.Repeat([]op{x0}, 4001), Outs: []int{0}},
		{Vars: 1, Ops: []op{x0}, Outs: make([]int, 401)},
	}
}

// TestTapesThatMayNotBe is P6.1: that comes ahead of all that is wrong besides.
func TestTapesThatMayNotBe(t *testing.T) {
	for _, s := range wrongTapes() {
		for _, x := range []box{nil, points(1), points(1, 2), {none}, {all}, {iv(2, 1)}} {
			for _, order := range []int{-1, 0, 3, 20, 21} {
				askError(t, "no tape", s, x, order, api.ErrTape)
			}
		}
	}
}

// TestNoFields is P6.1: as many Outs as Vars, from 1 to 24.
func TestNoFields(t *testing.T) {
	still := func(vars, outs int) api.Tape {
		return api.Tape{Vars: vars, Ops: []op{lit(1, 1)}, Outs: make([]int, outs)}
	}
	ones := func(many int) box { return slices.Repeat(points(1), many) }
	for _, c := range []struct{ vars, outs int }{{0, 0}, {0, 1}, {1, 0}, {1, 2}, {2, 1}, {2, 3}, {24, 23}, {24, 25}, {25, 25}, {25, 24}, {64, 64}, {64, 24}, {1, 400}} {
		for _, order := range []int{0, 1, 5} {
			askError(t, "no field", still(c.vars, c.outs), ones(c.vars), order, api.ErrArg)
			askError(t, "no field, and without end", still(c.vars, c.outs), slices.Repeat(box{all}, c.vars), order, api.ErrArg)
		}
	}
	askError(t, "nothing", api.Tape{}, nil, 0, api.ErrArg)
	for _, many := range []int{1, 2, 24} {
		c, e := taylor.Coefs(still(many, many), ones(many), 2)
		if e != api.OK || !sameRows(c, []box{ones(many), ones(many), slices.Repeat(points(0), many)}) {
			t.Errorf("%d variables: %v, %d", many, c, e)
		}
		if _, d, e := taylor.Slopes(still(many, many), ones(many), 2); e != api.OK || len(d) != 3 || len(d[2]) != many || len(d[2][0]) != many {
			t.Errorf("%d variables: %v, %d", many, d, e)
		}
	}
}

// TestOrders is P6.1: from 0 to 20.
func TestOrders(t *testing.T) {
	s, x := lastOf(variable(0)), points(1)
	for _, order := range []int{-1, -2, 21, 22, 1000, math.MaxInt, math.MinInt} {
		askError(t, "order", s, x, order, api.ErrArg)
		askError(t, "order, and without end", s, box{all}, order, api.ErrArg)
	}
	for order := range 21 {
		c, e := taylor.Coefs(s, x, order)
		if e != api.OK || len(c) != order+1 {
			t.Fatalf("order %d: %v, %d", order, c, e)
		}
		exact := big.NewRat(1, 1)
		for k := range c {
			exact.Quo(exact, big.NewRat(int64(max(k, 1)), 1))
			if len(c[k]) != 1 || !holds(c[k][0], exact) || ival.Wid(c[k][0]) > 1e-13*c[k][0].Hi {
				t.Errorf("order %d: the coefficient %d is %v", order, k, c[k])
			}
		}
		same, d, e := taylor.Slopes(s, x, order)
		if e != api.OK || !sameRows(same, c) || len(d) != order+1 {
			t.Errorf("order %d: slopes %v, %d", order, d, e)
		}
	}
}

// TestOrderZero is P6.1: nothing is worked out, so nothing is outside or wide.
func TestOrderZero(t *testing.T) {
	x := box{iv(-1, 4)}
	for _, o := range []op{of(api.TSqrt, 0), of(api.TLog, 0), pow(0, -1), both(api.TDiv, 0, 0), {Kind: api.TConst, Lit: all}} {
		s := lastOf(variable(0), o)
		if c, e := taylor.Coefs(s, x, 0); e != api.OK || !sameRows(c, []box{x}) {
			t.Errorf("Coefs(%v, %v, 0) = %v, %d", s, x, c, e)
		}
		if c, d, e := taylor.Slopes(s, x, 0); e != api.OK || !sameRows(c, []box{x}) || !sameTables(d, [][]box{{points(1)}}) {
			t.Errorf("Slopes(%v, %v, 0) = %v, %v, %d", s, x, c, d, e)
		}
		if _, e := taylor.Coefs(s, x, 1); e == api.OK {
			t.Errorf("Coefs(%v, %v, 1) tells no error", s, x)
		}
	}
}

// TestWrongBeginnings is P6.1: as many intervals as variables, that may be and hold something; behind that, that have an end.
func TestWrongBeginnings(t *testing.T) {
	two := api.Tape{Vars: 2, Ops: []op{variable(0), variable(1)}, Outs: []int{1, 0}}
	failing := api.Tape{Vars: 2, Ops: []op{variable(0), {Kind: api.TConst, Lit: all}, pow(0, -1)}, Outs: []int{0, 0}}
	idle := api.Tape{Vars: 2, Ops: []op{lit(1, 1)}, Outs: []int{0, 0}} // nobody takes them
	one := point(1)
	wrong := []box{nil, {}, {one}, {one, one, one}, slices.Repeat(box{one}, 24), slices.Repeat(box{one}, 100), {all}, {all, all, all}}
	for _, x := range append(wrongIntervals(), none) {
		wrong = append(wrong, box{x, one}, box{one, x}, box{x, x}, box{x, all}, box{all, x})
	}
	var wide []box
	for _, x := range (box{all, iv(0, inf), iv(-inf, 0), iv(greatest, inf), iv(-inf, -greatest)}) {
		wide = append(wide, box{x, one}, box{one, x}, box{x, x})
	}
	for _, s := range []api.Tape{two, failing, idle} {
		for _, order := range []int{0, 1, 20} {
			for _, x := range wrong {
				askError(t, "beginning", s, x, order, api.ErrArg)
			}
			for _, x := range wide {
				askError(t, "beginning without end", s, x, order, api.ErrWide)
			}
		}
		askError(t, "order, and beginning", s, box{all, one}, 21, api.ErrArg)
	}
	for _, x := range []box{{one, one}, {iv(-greatest, greatest), one}, {one, iv(-least, least)}} {
		if c, e := taylor.Coefs(two, x, 1); e != api.OK || !sameRows(c, []box{x, {x[1], x[0]}}) {
			t.Errorf("Coefs(%v, %v, 1) = %v, %d", two, x, c, e)
		}
	}
}

// TestJunk is rule R3: fields that an operation does not need are not looked at.
func TestJunk(t *testing.T) {
	r := chance(61)
	for n := range 400 {
		vars := 1 + n%3
		s, x := someField(r, kindsUpTo(api.TAtan), vars, n%8, 3), someBox(r, vars)
		junk := withJunk(r, s)
		c, d, e := taylor.Slopes(s, x, n%6)
		got, slopes, f := taylor.Slopes(junk, x, n%6)
		if f != e || !sameRows(got, c) || !sameTables(slopes, d) {
			t.Errorf("Slopes(%v, %v) = %v, %v, %d, want %v, %v, %d", junk, x, got, slopes, f, c, d, e)
		}
	}
}

// full is a list up to its capacity: what lies behind its end is memory, too.
func full[T any](list []T) []T { return list[:cap(list)] }

// TestMemory is rules R4 and 7: arguments are neither changed nor handed out, and no two lists of an answer share any.
func TestMemory(t *testing.T) {
	made := func() (api.Tape, box) {
		return api.Tape{Vars: 2, Ops: []op{variable(0), variable(1), both(api.TMul, 0, 1), pow(2, 3), of(api.TSin, 3), of(api.TAtan, 4)}, Outs: []int{5, 5}}, box{iv(0.5, 0.51), iv(0.25, 0.26)}
	}
	s, x := made()
	for _, order := range []int{0, 1, 4} {
		first, _ := taylor.Coefs(s, x, order)
		c, d, e := taylor.Slopes(s, x, order)
		again, slopes, _ := taylor.Slopes(s, x, order)
		if e != api.OK || !sameRows(c, first) {
			t.Fatal("Slopes:", c, e)
		}
		lists := append(slices.Clone(first), c...)
		want := append(slices.Clone(again), again...)
		for k := range d {
			lists, want = append(lists, d[k]...), append(want, slopes[k]...)
		}
		for n, list := range lists {
			for m := n; m < len(lists); m++ {
				if !slices.Equal(lists[m], want[m]) {
					t.Errorf("order %d: two lists share memory", order)
				}
			}
			clear(full(list))
		}
		for k := range d {
			clear(full(d[k]))
			if k+1 < len(d) && len(d[k+1][0]) != 2 {
				t.Errorf("order %d: two lists of lists share memory", order)
			}
		}
	}
	keep, begin := made()
	if s.Vars != keep.Vars || !slices.Equal(s.Ops, keep.Ops) || !slices.Equal(s.Outs, keep.Outs) || !slices.Equal(x, begin) {
		t.Error("arguments are another's:", s, x)
	}
}
