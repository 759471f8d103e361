package unit_test

// The words of Infer, in the rows of oracle_test.go.

import (
	"fmt"
	"math/big"
	"strings"

	"orrery/api"
)

// needs is how many of A and B a kind needs.
func needs(kind int) int {
	return map[int]int{api.TAdd: 2, api.TSub: 2, api.TMul: 2, api.TDiv: 2, api.TNeg: 1, api.TPow: 1, api.TSqrt: 1, api.TExp: 1, api.TLog: 1, api.TSin: 1, api.TCos: 1, api.TAtan: 1}[kind]
}

func graphMayBe(nodes []api.Node) bool {
	for i, n := range nodes {
		wrong := n.Kind < 1 || n.Kind > 15 ||
			needs(n.Kind) > 0 && (n.A < 0 || n.A >= i) ||
			needs(n.Kind) > 1 && (n.B < 0 || n.B >= i) ||
			n.Kind == api.TConst && (!mayBe(n.Num) || !dimMayBe(n.Dim)) ||
			n.Kind == api.TVar && (n.Key.V < 0 || n.Key.K < 0 || n.Key.K > 6) ||
			n.Kind == api.TPow && (n.N < -64 || n.N > 64)
		if wrong {
			return false
		}
	}
	return len(nodes) <= 4000
}

// question is what Infer is asked.
type question struct {
	nodes  []api.Node
	eqs    []int
	vars   []api.Dim
	given  []bool
	second api.Dim
}

func (k question) String() string {
	var s strings.Builder
	for i, n := range k.nodes[:min(len(k.nodes), 60)] {
		fmt.Fprintf(&s, "%d: kind %d of %d %d, N %d, %v, %v", i, n.Kind, n.A, n.B, n.N, n.Key, n.Num)
		if n.Kind == api.TConst {
			fmt.Fprint(&s, ", ", n.Dim)
		}
		s.WriteString("\n")
	}
	vars := k.vars[:min(len(k.vars), 20)]
	return fmt.Sprintf("%s%d nodes, equations %v, variables %v, given %v, second %v", s.String(), len(k.nodes), k.eqs, vars, k.given, k.second)
}

func (k question) needed() map[int]bool {
	found := map[int]bool{}
	var need func(i int)
	need = func(i int) {
		if found[i] {
			return
		}
		found[i] = true
		n := k.nodes[i]
		if needs(n.Kind) > 0 {
			need(n.A)
		}
		if needs(n.Kind) > 1 {
			need(n.B)
		}
	}
	for _, eq := range k.eqs {
		need(eq)
	}
	return found
}

// want is P14.4.
func (k question) want() ([]api.Dim, api.Errno) {
	if !graphMayBe(k.nodes) {
		return nil, api.ErrGraph
	}
	for _, eq := range k.eqs {
		if eq < 0 || eq >= len(k.nodes) {
			return nil, api.ErrGraph
		}
	}
	if len(k.given) != len(k.vars) || !dimMayBe(k.second) {
		return nil, api.ErrArg
	}
	for i, d := range k.vars {
		if k.given[i] && !dimMayBe(d) {
			return nil, api.ErrArg
		}
	}
	for i := range k.needed() {
		if n := k.nodes[i]; n.Kind == api.TVar && n.Key.V >= len(k.vars) {
			return nil, api.ErrArg
		}
	}
	return answerOf(func() []api.Dim { return k.solve(k.rules()) })
}

func (k question) rules() []row {
	var rules []row
	needed := k.needed()
	dims := map[int]row{}
	free := func(i int) bool { return k.nodes[i].Kind == api.TConst && k.nodes[i].Num == q(0, 1) }
	for i, n := range k.nodes {
		if !needed[i] {
			continue
		}
		a, b := dims[n.A], dims[n.B]
		switch n.Kind {
		case api.TConst:
			dims[i] = rowOf(n.Dim, len(k.vars))
		case api.TVar:
			dims[i] = k.variable(n.Key.V).times(rowOf(k.second, len(k.vars)), big.NewRat(int64(-n.Key.K), 1))
		case api.TTime:
			dims[i] = rowOf(k.second, len(k.vars))
		case api.TAdd, api.TSub:
			dims[i] = a
			if free(n.A) {
				dims[i] = b
			}
			if !free(n.A) && !free(n.B) {
				rules = append(rules, a.times(b, big.NewRat(-1, 1)))
			}
		case api.TMul:
			dims[i] = a.times(b, big.NewRat(1, 1))
		case api.TDiv:
			dims[i] = a.times(b, big.NewRat(-1, 1))
		case api.TNeg:
			dims[i] = a
		case api.TPow:
			dims[i] = a.power(big.NewRat(int64(n.N), 1))
		case api.TSqrt:
			dims[i] = a.power(big.NewRat(1, 2))
		default:
			dims[i] = rowOf(plain(), len(k.vars))
			if !free(n.A) {
				rules = append(rules, a)
			}
		}
	}
	return rules
}

func (k question) variable(v int) row {
	if k.given[v] {
		return rowOf(k.vars[v], len(k.vars))
	}
	r := rowOf(plain(), len(k.vars))
	r[7+v].SetInt64(1)
	return r
}

// own is the number of the first unknown of a rule; none: -1.
func own(rule row) int {
	for v, e := range rule[7:] {
		if e.Sign() != 0 {
			return v
		}
	}
	return -1
}

func (k question) solve(rules []row) []api.Dim {
	var kept []row
	for _, rule := range rules {
		for _, ahead := range kept {
			e := rule[7+own(ahead)]
			rule = rule.times(ahead, new(big.Rat).Neg(e))
		}
		v := own(rule)
		if v < 0 && !rule.isPlain() {
			panic(over{api.ErrUnit})
		}
		if v >= 0 {
			kept = append(kept, rule.divided(rule[7+v]))
		}
	}
	told := make([]api.Dim, len(k.vars))
	for v := range told {
		told[v] = plain()
		if k.given[v] {
			told[v] = k.vars[v]
		}
	}
	for i := len(kept) - 1; i >= 0; i-- {
		sum := rowOf(row(kept[i][:7]).dim(), 0)
		for v, e := range kept[i][7:] {
			if v != own(kept[i]) {
				sum = sum.times(rowOf(told[v], 0), e)
			}
		}
		told[own(kept[i])] = sum.power(big.NewRat(-1, 1)).dim()
	}
	return told
}
