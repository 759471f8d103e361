package symb_test

// The chapter's words, gone through one by one: what a node needs, whether it is total, and whether a node is there already, are looked up anew each time; numbers are the library's; derivatives are texts.

import (
	"math/big"
	"slices"
	"strings"

	"orrery/api"
)

// inNodes tells what kinds of numbers a node's fields may have, by the words of chapters 5, 11 and 14.
func mayBe(nodes []api.Node, roots ...int) bool {
	for i, n := range nodes {
		if n.Kind < api.TConst || n.Kind > api.TTime || i >= 4000 {
			return false
		}
		for _, operand := range []int{n.A, n.B}[:needs(n.Kind)] {
			if operand < 0 || operand >= i {
				return false
			}
		}
		if n.Kind == api.TConst && (!numberMayBe(n.Num) || slices.ContainsFunc(n.Dim.E[:], func(r api.Rat) bool { return !numberMayBe(r) })) {
			return false
		}
		if n.Kind == api.TVar && (n.Key.V < 0 || n.Key.K < 0 || n.Key.K > 6) || n.Kind == api.TPow && (n.N < -64 || n.N > 64) {
			return false
		}
	}
	return !slices.ContainsFunc(roots, func(r int) bool { return r < 0 || r >= len(nodes) })
}

func numberMayBe(r api.Rat) bool {
	return r.D > 0 && r.N != -1<<63 && new(big.Int).GCD(nil, nil, big.NewInt(max(r.N, -r.N)), big.NewInt(r.D)).Int64() == 1
}

// words is a graph that is being built.
type words struct{ nodes []api.Node }

// inside are all nodes that a node needs, and itself.
func inside(nodes []api.Node, i int) map[int]bool {
	found := map[int]bool{}
	var walk func(i int)
	walk = func(i int) {
		if found[i] {
			return
		}
		found[i] = true
		n := nodes[i]
		for _, operand := range []int{n.A, n.B}[:needs(n.Kind)] {
			walk(operand)
		}
	}
	walk(i)
	return found
}

func insideAll(nodes []api.Node, roots ...[]int) map[int]bool {
	all := map[int]bool{}
	for _, r := range slices.Concat(roots...) {
		if !all[r] {
			for i := range inside(nodes, r) {
				all[i] = true
			}
		}
	}
	return all
}

func (w *words) total(i int) bool {
	for at := range inside(w.nodes, i) {
		n := w.nodes[at]
		if n.Kind == api.TDiv || n.Kind == api.TSqrt || n.Kind == api.TLog || n.Kind == api.TPow && n.N < 0 {
			return false
		}
	}
	return true
}

func (w *words) isNum(i int, n int64) bool { return w.nodes[i] == whole(n) }

// exact is a number's value.
func (w *words) exact(i int) *big.Rat {
	if n := w.nodes[i]; n.Kind == api.TConst {
		return big.NewRat(n.Num.N, n.Num.D)
	}
	return nil
}

// room is a quotient as a number, if it has room.
func room(r *big.Rat) *api.Rat {
	if r == nil || !r.Num().IsInt64() || !r.Denom().IsInt64() || r.Num().Int64() == -1<<63 {
		return nil
	}
	return &api.Rat{N: r.Num().Int64(), D: r.Denom().Int64()}
}

func power(a *big.Rat, n int) *big.Rat {
	if n < 0 {
		if a.Sign() == 0 {
			return nil
		}
		return power(new(big.Rat).Inv(a), -n)
	}
	p := big.NewRat(1, 1)
	for range n {
		p.Mul(p, a)
	}
	return p
}

// first is rule 1: the number that a node is, if it is one.
func (w *words) first(n api.Node) *api.Rat {
	count := needs(n.Kind)
	var ab [2]*big.Rat
	for i, operand := range []int{n.A, n.B}[:count] {
		if ab[i] = w.exact(operand); ab[i] == nil {
			return nil
		}
	}
	a, b, r := ab[0], ab[1], new(big.Rat)
	known := func(at, is int64) *api.Rat {
		if a.Cmp(big.NewRat(at, 1)) == 0 {
			return &api.Rat{N: is, D: 1}
		}
		return nil
	}
	switch n.Kind {
	case api.TAdd:
		return room(r.Add(a, b))
	case api.TSub:
		return room(r.Sub(a, b))
	case api.TMul:
		return room(r.Mul(a, b))
	case api.TDiv:
		if b.Sign() == 0 {
			return nil
		}
		return room(r.Quo(a, b))
	case api.TNeg:
		return room(r.Neg(a))
	case api.TPow:
		return room(power(a, n.N))
	case api.TSqrt:
		if one := known(1, 1); one != nil {
			return one
		}
		return known(0, 0)
	case api.TExp, api.TCos:
		return known(0, 1)
	case api.TLog:
		return known(1, 0)
	case api.TSin, api.TAtan:
		return known(0, 0)
	}
	return nil
}

// second is rule 2: what a node becomes, -1 if nothing else; each row is one of the document's.
func (w *words) second(n api.Node) int {
	a, b := n.A, n.B
	rows := map[int][]func() int{
		api.TAdd: {
			when(needs(n.Kind) == 2 && w.isNum(a, 0), func() int { return b }),
			when(needs(n.Kind) == 2 && w.isNum(b, 0), func() int { return a }),
		},
		api.TSub: {
			when(needs(n.Kind) == 2 && w.isNum(b, 0), func() int { return a }),
			when(needs(n.Kind) == 2 && w.isNum(a, 0), func() int { return w.put(api.Node{Kind: api.TNeg, A: b}) }),
			when(needs(n.Kind) == 2 && a == b && w.total(a), func() int { return w.put(whole(0)) }),
		},
		api.TMul: {
			when(needs(n.Kind) == 2 && w.isNum(a, 1), func() int { return b }),
			when(needs(n.Kind) == 2 && w.isNum(b, 1), func() int { return a }),
			when(needs(n.Kind) == 2 && w.isNum(a, 0) && w.total(b), func() int { return w.put(whole(0)) }),
			when(needs(n.Kind) == 2 && w.isNum(b, 0) && w.total(a), func() int { return w.put(whole(0)) }),
			when(needs(n.Kind) == 2 && w.isNum(a, -1), func() int { return w.put(api.Node{Kind: api.TNeg, A: b}) }),
			when(needs(n.Kind) == 2 && w.isNum(b, -1), func() int { return w.put(api.Node{Kind: api.TNeg, A: a}) }),
		},
		api.TDiv: {
			when(needs(n.Kind) == 2 && w.isNum(b, 1), func() int { return a }),
		},
		api.TNeg: {
			when(n.Kind == api.TNeg && w.nodes[a].Kind == api.TNeg, func() int { return w.nodes[a].A }),
		},
		api.TPow: {
			when(n.N == 1, func() int { return a }),
			when(n.Kind == api.TPow && n.N == 0 && w.total(a), func() int { return w.put(whole(1)) }),
		},
	}
	for _, row := range rows[n.Kind] {
		if became := row(); became >= 0 {
			return became
		}
	}
	return -1
}

func when(holds bool, is func() int) func() int {
	if holds {
		return is
	}
	return func() int { return -1 }
}

// put makes a node.
func (w *words) put(n api.Node) int {
	if n.Kind == api.TConst {
		n.Dim = dim()
	} else if n.Kind != api.TVar && n.Kind != api.TTime {
		if r := w.first(n); r != nil {
			return w.put(num(*r))
		}
		if became := w.second(n); became >= 0 {
			return became
		}
	}
	for i, there := range w.nodes {
		if there == n {
			return i
		}
	}
	w.nodes = append(w.nodes, n)
	return len(w.nodes) - 1
}

// plainNode has zero in what its kind does not need, and other operands.
func plainNode(n api.Node, became map[int]int) api.Node {
	var p api.Node
	switch n.Kind {
	case api.TConst:
		p.Num, p.Dim = n.Num, n.Dim
	case api.TVar:
		p.Key = n.Key
	case api.TPow:
		p.N = n.N
	}
	for i, operand := range []int{n.A, n.B}[:needs(n.Kind)] {
		*[]*int{&p.A, &p.B}[i] = became[operand]
	}
	p.Kind = n.Kind
	return p
}

// build is the graph that is built, and what roots became.
func (w *words) build(nodes []api.Node, roots []int) []int {
	became := map[int]int{}
	all := insideAll(nodes, roots)
	for i, n := range nodes {
		if all[i] {
			became[i] = w.put(plainNode(n, became))
		}
	}
	return mapped(roots, became)
}

func mapped(list []int, to map[int]int) []int {
	var m []int
	for _, i := range list {
		m = append(m, to[i])
	}
	return m
}

// cleared is only what some roots need.
func (w *words) cleared(roots, rates []int) asked {
	all := insideAll(w.nodes, roots, rates)
	numbers := map[int]int{}
	var left []api.Node
	for i, n := range w.nodes {
		if all[i] {
			numbers[i] = len(left)
			left = append(left, plainNode(n, numbers))
		}
	}
	return asked{left, mapped(roots, numbers), mapped(rates, numbers)}
}

func buildByWords(g asked) (asked, api.Errno) {
	if !mayBe(g.nodes, g.roots...) {
		return asked{}, api.ErrGraph
	}
	var w words
	return w.cleared(w.build(g.nodes, g.roots), nil), api.OK
}

// derivativeTexts are the derivatives: da and db are those of the operands a and b, v the node, N and M its exponent and one less. Nodes take operands from a stack.
var derivativeTexts = map[int]string{
	api.TConst: "0", api.TVar: "next", api.TTime: "1",
	api.TAdd: "da db +", api.TSub: "da db -", api.TMul: "da b * a db * +", api.TDiv: "da v db * - b /", api.TNeg: "da neg",
	api.TPow: "N a ^M * da *", api.TSqrt: "da 2 v * /", api.TExp: "v da *", api.TLog: "da a /",
	api.TSin: "a cos da *", api.TCos: "a sin da * neg", api.TAtan: "da 1 a ^2 + /",
}

// derive makes the derivative of the node v.
func (w *words) derive(v int, rates map[int]int) int {
	n := w.nodes[v]
	text := derivativeTexts[n.Kind]
	if n.Kind == api.TPow && n.N == 0 {
		text = "0"
	}
	var stack []int
	pop := func() int {
		top := stack[len(stack)-1]
		stack = stack[:len(stack)-1]
		return top
	}
	for _, word := range strings.Fields(text) {
		at := 0
		switch word {
		case "da":
			at = rates[n.A]
		case "db":
			at = rates[n.B]
		case "a":
			at = n.A
		case "b":
			at = n.B
		case "v":
			at = v
		case "next":
			at = w.put(variable(n.Key.V, n.Key.K+1))
		case "N":
			at = w.put(whole(int64(n.N)))
		case "^M":
			at = w.put(api.Node{Kind: api.TPow, A: pop(), N: n.N - 1})
		case "^2":
			at = w.put(api.Node{Kind: api.TPow, A: pop(), N: 2})
		case "0", "1", "2":
			at = w.put(whole(readInt(word)))
		default:
			m := api.Node{Kind: signs[word]}
			if needs(m.Kind) > 1 {
				m.B = pop()
			}
			m.A = pop()
			at = w.put(m)
		}
		stack = append(stack, at)
	}
	return pop()
}

func diffByWords(g asked) (asked, api.Errno) {
	if !mayBe(g.nodes, g.roots...) {
		return asked{}, api.ErrGraph
	}
	var w words
	roots := w.build(g.nodes, g.roots)
	rates := map[int]int{}
	all := insideAll(w.nodes, roots)
	for v, n := range slices.Clone(w.nodes) {
		if !all[v] {
			continue
		}
		if n.Kind == api.TPow && n.N == -64 || n.Kind == api.TVar && n.Key.K == 6 {
			return asked{}, api.ErrLong
		}
		rates[v] = w.derive(v, rates)
		if len(w.nodes) > 4000 {
			return asked{}, api.ErrLong
		}
	}
	return w.cleared(roots, mapped(roots, rates)), api.OK
}

func usesByWords(nodes []api.Node, root int) ([]api.Key, api.Errno) {
	if !mayBe(nodes, root) {
		return nil, api.ErrGraph
	}
	found := map[api.Key]bool{}
	for i := range inside(nodes, root) {
		if nodes[i].Kind == api.TVar {
			found[nodes[i].Key] = true
		}
	}
	var keys []api.Key
	for k := range found {
		at := 0
		for at < len(keys) && (keys[at].V < k.V || keys[at].V == k.V && keys[at].K < k.K) {
			at++
		}
		keys = slices.Insert(keys, at, k)
	}
	return keys, api.OK
}
