package tape_test

import (
	"slices"
	"testing"

	"orrery/api"
	"orrery/tape"
)

func askTrim(t *testing.T, name string, s, want api.Tape) {
	t.Helper()
	if got, e := tape.Trim(s); e != api.OK || !sameTape(got, want) {
		t.Errorf("%s: Trim(%v) = %v, %d, want %v", name, s, got, e, want)
	}
}

// TestTrim is P5.4, by hand.
func TestTrim(t *testing.T) {
	x0, x1 := variable(0), variable(1)
	for _, c := range []struct {
		name    string
		s, want api.Tape
	}{
		{"nothing", api.Tape{}, api.Tape{}},
		{"variables alone", api.Tape{Vars: 64}, api.Tape{Vars: 64}},
		{"nothing is needed", api.Tape{Vars: 1, Ops: []op{x0, both(api.TMul, 0, 0), lit(1, 2)}}, api.Tape{Vars: 1}},
		{"all is needed, and once there", parabola(), parabola()},
		{"the first alone", api.Tape{Vars: 1, Ops: parabola().Ops, Outs: []int{0}}, lastOf(1, x0)},
		{"by B alone", lastOf(2, x0, x1, lit(2, 2), of(api.TNeg, 0), both(api.TSub, 2, 1)), lastOf(2, x1, lit(2, 2), both(api.TSub, 1, 0))},
		{"by A alone", lastOf(2, x0, x1, of(api.TNeg, 0), of(api.TNeg, 1), pow(3, 2)), lastOf(2, x1, of(api.TNeg, 0), pow(1, 2))},
		{"what is the same by what is the same", lastOf(2, x0, x0, x1, x1, both(api.TAdd, 0, 3), both(api.TAdd, 1, 2), both(api.TMul, 4, 5)), lastOf(2, x0, x1, both(api.TAdd, 0, 1), both(api.TMul, 2, 2))},
		{"sums the other way round are others", lastOf(2, x0, x1, both(api.TAdd, 0, 1), both(api.TAdd, 1, 0), both(api.TSub, 2, 3)), lastOf(2, x0, x1, both(api.TAdd, 0, 1), both(api.TAdd, 1, 0), both(api.TSub, 2, 3))},
		{"both Outs are one", api.Tape{Vars: 1, Ops: []op{x0, of(api.TSin, 0), of(api.TSin, 0)}, Outs: []int{2, 1, 0, 2}}, api.Tape{Vars: 1, Ops: []op{x0, of(api.TSin, 0)}, Outs: []int{1, 1, 0, 1}}},
		{"the same as one that nobody needs", api.Tape{Vars: 1, Ops: []op{lit(1, 1), x0, lit(1, 1), x0}, Outs: []int{3, 2}}, api.Tape{Vars: 1, Ops: []op{lit(1, 1), x0}, Outs: []int{1, 0}}},
	} {
		askTrim(t, c.name, c.s, c.want)
	}
}

// TestTrimOrder is P5.4: Outs change no order, and what is needed comes first of all.
func TestTrimOrder(t *testing.T) {
	s := api.Tape{Vars: 3, Ops: []op{variable(2), lit(1, 2), variable(0), variable(1)}, Outs: []int{3, 2, 0}}
	askTrim(t, "order", s, api.Tape{Vars: 3, Ops: []op{variable(2), variable(0), variable(1)}, Outs: []int{2, 1, 0}})
}

// TestNotTheSame is P5.4: one thing that is needed is another.
func TestNotTheSame(t *testing.T) {
	x0, x1 := variable(0), variable(1)
	pairs := [][2]op{
		{x0, x1},
		{lit(1, 2), lit(1, 3)},
		{lit(1, 2), lit(0, 2)},
		{lit(0, 0), lit(0, least)},
		{lit(0, 0), lit(-least, 0)},
		{pow(0, 2), pow(0, 3)},
		{pow(0, 2), pow(0, -2)},
		{pow(0, 2), pow(1, 2)},
		{pow(0, 0), pow(0, 1)},
		{of(api.TNeg, 0), of(api.TNeg, 1)},
		{both(api.TMul, 0, 0), both(api.TMul, 0, 1)},
		{both(api.TMul, 0, 0), both(api.TMul, 1, 0)},
		{both(api.TMul, 0, 1), both(api.TMul, 1, 0)},
	}
	for k := api.TNeg; k <= api.TAtan; k++ {
		for l := k + 1; l <= api.TAtan; l++ {
			pairs = append(pairs, [2]op{of(k, 0), of(l, 0)})
		}
	}
	for k := api.TAdd; k <= api.TDiv; k++ {
		for l := k + 1; l <= api.TDiv; l++ {
			pairs = append(pairs, [2]op{both(k, 0, 1), both(l, 0, 1)})
		}
		pairs = append(pairs, [2]op{both(k, 0, 0), of(api.TNeg, 0)})
	}
	for _, p := range pairs {
		if p[0].Kind == api.TVar {
			s := api.Tape{Vars: 2, Ops: p[:], Outs: []int{0, 1}}
			askTrim(t, "variables", s, s)
			continue
		}
		s := api.Tape{Vars: 2, Ops: []op{x0, x1, p[0], p[1]}, Outs: []int{0, 1, 2, 3}}
		askTrim(t, "another", s, s)
		s = api.Tape{Vars: 2, Ops: []op{x0, x1, p[0], p[0], p[1]}, Outs: []int{0, 1, 2, 3, 4}}
		askTrim(t, "another, and the same", s, api.Tape{Vars: 2, Ops: []op{x0, x1, p[0], p[1]}, Outs: []int{0, 1, 2, 2, 3}})
	}
}

// TestAllTheSame is P5.4 of tapes in which all is one, as long as may be.
func TestAllTheSame(t *testing.T) {
	for _, o := range []op{variable(1), lit(1, 2)} {
		s := api.Tape{Vars: 2, Ops: slices.Repeat([]op{o}, 4000)}
		for n := range 400 {
			s.Outs = append(s.Outs, 10*n+9)
		}
		askTrim(t, "all the same", s, api.Tape{Vars: 2, Ops: []op{o}, Outs: make([]int, 400)})
	}
	s := api.Tape{Vars: 1, Ops: []op{variable(0)}} // each pair is the same as the one ahead
	want := api.Tape{Vars: 1, Ops: []op{variable(0)}}
	for n := range 1999 {
		s.Ops = append(s.Ops, both(api.TAdd, 2*n, max(0, 2*n-1)), both(api.TAdd, max(0, 2*n-1), 2*n))
		want.Ops = append(want.Ops, both(api.TAdd, n, n))
	}
	s.Outs, want.Outs = []int{3998, 3997}, []int{1999, 1999}
	askTrim(t, "pairs", s, want)
}

// TestTrimByWords is P5.4 of tapes by chance, of few things, so that many are the same.
func TestTrimByWords(t *testing.T) {
	r := chance(55)
	fewer, all := 0, 0
	for n := range 4000 {
		vars := n % 3
		kinds := kindsUpTo([]int{api.TAdd, api.TSub, api.TPow, api.TAtan}[n%4])
		s := someTape(r, kinds, vars, vars+1+n%30, n%5, 1)
		for i := range s.Ops {
			if s.Ops[i].Kind == api.TConst {
				s.Ops[i].Lit = iv(0, float64(r.Intn(2)))
			}
		}
		want := wordsTrim(s)
		askTrim(t, "by chance", s, want)
		askTrim(t, "with junk", withJunk(r, s), want)
		for _, need := range wordsNeed(s) {
			if need {
				all++
			}
		}
		fewer += len(want.Ops)
	}
	if all < 10000 || fewer > all*9/10 {
		t.Errorf("of %d operations that were needed %d were left", all, fewer)
	}
}

// TestTrimmedMemory is R4: no two lists of an answer share any.
func TestTrimmedMemory(t *testing.T) {
	s, _ := tape.Trim(parabola())
	clear(s.Outs[:cap(s.Outs)])
	if !slices.Equal(s.Ops, parabola().Ops) {
		t.Error(s)
	}
}
