package unit_test

// What tests are made of.

import (
	"math"
	"math/rand"
	"slices"
	"testing"

	"orrery/api"
	"orrery/unit"
)

const top = math.MaxInt64 // 2^63 - 1

func q(n, d int64) api.Rat { return api.Rat{N: n, D: d} }

func plain() api.Dim {
	return api.Dim{E: [7]api.Rat{{N: 0, D: 1}, {N: 0, D: 1}, {N: 0, D: 1}, {N: 0, D: 1}, {N: 0, D: 1}, {N: 0, D: 1}, {N: 0, D: 1}}}
}

// dim has these exponents, and 0 behind them.
func dim(l ...int64) api.Dim {
	d := plain()
	for i, n := range l {
		d.E[i].N = n
	}
	return d
}

// at is plain but for one exponent.
func at(place int, e api.Rat) api.Dim {
	d := plain()
	d.E[place] = e
	return d
}

// wrong are numbers that may not be.
func wrong() []api.Rat {
	return []api.Rat{{}, q(1, 0), q(1, -1), q(0, -1), q(-1, -1), q(0, 2), q(2, 2), q(6, 4), q(-6, 4), q(7, top), q(math.MinInt64, 1), q(math.MinInt64, 3), q(1, math.MinInt64), q(top, top)}
}

// wrongDims have one exponent that may not be, at each of the places.
func wrongDims() []api.Dim {
	var out []api.Dim
	for i := range 7 {
		for _, e := range wrong() {
			out = append(out, at(i, e))
		}
	}
	return append(out, api.Dim{})
}

// edges are numbers that may be, some of them hardly.
func edges() []api.Rat {
	out := []api.Rat{q(0, 1)}
	for _, a := range []api.Rat{
		q(1, 1), q(2, 1), q(3, 1), q(1, 2), q(1, 3), q(2, 3), q(5, 6), q(64, 1), q(1, 64), q(63, 64),
		q(1<<32, 1), q(1, 1<<32), q(3037000499, 1), q(3037000500, 1), q(1<<61, 1), q(1<<62, 1), q(1<<62-1, 1), q(1, 1<<62), q(1, 1<<61), q(3, 1<<62),
		q(top, 1), q(1, top), q(top-1, 1), q(top, top-1), q(top-1, top), q(top, 2), q(2, top), q(top/7, 1),
	} {
		out = append(out, a, q(-a.N, a.D))
	}
	return out
}

// drawn makes things by chance.
type drawn struct{ *rand.Rand }

func draw(seed int64) drawn { return drawn{rand.New(rand.NewSource(seed))} }

// pick is one of these, each as often as the others.
func pick[T any](d drawn, all ...T) T { return all[d.Intn(len(all))] }

// exponent is mostly small.
func (d drawn) exponent() api.Rat {
	switch d.Intn(8) {
	case 0, 1, 2:
		return q(0, 1)
	case 3:
		return pick(d, q(1, 2), q(-1, 2), q(3, 2), q(1, 3), q(-2, 3))
	}
	return q(int64(d.Intn(7)-3), 1)
}

func (d drawn) dim() api.Dim {
	out := plain()
	for i := range 1 + d.Intn(7) {
		out.E[i] = d.exponent()
	}
	return out
}

// wildDim has some exponents that may hardly be.
func (d drawn) wildDim() api.Dim {
	out := d.dim()
	for range 1 + d.Intn(3) {
		out.E[d.Intn(7)] = pick(d, edges()...)
	}
	return out
}

// answer is a dimension and an error, as calls answer them.
type answer struct {
	d api.Dim
	e api.Errno
}

func answered(d api.Dim, e api.Errno) answer { return answer{d, e} }

func is(d api.Dim) answer { return answer{d, api.OK} }

func failed(e api.Errno) answer { return answer{e: e} }

func check(t *testing.T, got, want answer, what ...any) {
	t.Helper()
	if got != want {
		t.Errorf("%v: %v, want %v", what, got, want)
	}
}

// checkOf asks for the dimension of a tree.
func checkOf(t *testing.T, tree api.Tree, names []string, dims []api.Dim, want answer) {
	t.Helper()
	check(t, answered(unit.Of(tree, names, dims)), want, tree)
	check(t, answered(wantOf(tree, names, dims)), want, "the oracle", tree)
}

// checkInfer holds what is inferred against what is asked for, and so what the oracle says.
func checkInfer(t *testing.T, k question, wantDims []api.Dim, wantErr api.Errno) {
	t.Helper()
	got, e := unit.Infer(k.nodes, k.eqs, k.vars, k.given, k.second)
	if e != wantErr || !slices.Equal(got, wantDims) {
		t.Errorf("%v: %v %d, want %v %d", k, got, e, wantDims, wantErr)
	}
	if got, e = k.want(); e != wantErr || !slices.Equal(got, wantDims) {
		t.Errorf("the oracle of %v: %v %d, want %v %d", k, got, e, wantDims, wantErr)
	}
}

// checkByWords holds what is inferred against the oracle; it tells the error.
func checkByWords(t *testing.T, k question) api.Errno {
	t.Helper()
	want, wantErr := k.want()
	got, e := unit.Infer(k.nodes, k.eqs, k.vars, k.given, k.second)
	if e != wantErr || !slices.Equal(got, want) {
		t.Errorf("%v: %v %d, want %v %d", k, got, e, want, wantErr)
	}
	return e
}
