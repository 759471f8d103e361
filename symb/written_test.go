package symb_test

// Graphs as texts: the nodes in their order, of which each takes its operands from a stack. What is left at a semicolon is a root, at an exclamation mark a root's derivative, at a point nothing. #3 puts the node 3 on the stack again. A variable has ' behind it for each derivative; a number has the exponents of its dimension behind @, if it isn't plain.

import (
	"fmt"
	"slices"
	"strconv"
	"strings"

	"orrery/api"
)

// asked is a graph with what is asked of it, or what is answered: the numbers of roots, and of derivatives.
type asked struct {
	nodes []api.Node
	roots []int
	rates []int
}

var signs = map[string]int{"+": api.TAdd, "-": api.TSub, "*": api.TMul, "/": api.TDiv, "neg": api.TNeg, "sqrt": api.TSqrt, "exp": api.TExp, "log": api.TLog, "sin": api.TSin, "cos": api.TCos, "atan": api.TAtan, "time": api.TTime}

const names = "xyzuvw"

func needs(kind int) int {
	switch kind {
	case api.TConst, api.TVar, api.TTime:
		return 0
	case api.TAdd, api.TSub, api.TMul, api.TDiv:
		return 2
	}
	return 1
}

func q(n, d int64) api.Rat { return api.Rat{N: n, D: d} }

// dim has these exponents, and 0 behind them.
func dim(exponents ...api.Rat) api.Dim {
	var d api.Dim
	for i := range d.E {
		d.E[i] = q(0, 1)
	}
	copy(d.E[:], exponents)
	return d
}

func num(r api.Rat) api.Node { return api.Node{Kind: api.TConst, Num: r, Dim: dim()} }

func whole(n int64) api.Node { return num(q(n, 1)) }

func variable(v, k int) api.Node {
	return api.Node{Kind: api.TVar, Key: api.Key{V: v, K: k}}
}

func readInt(s string) int64 {
	n, err := strconv.ParseInt(s, 10, 64)
	if err != nil {
		panic(err)
	}
	return n
}

func readRat(s string) api.Rat {
	n, d, quotient := strings.Cut(s, "/")
	if !quotient {
		d = "1"
	}
	return q(readInt(n), readInt(d))
}

func readDim(s string) api.Dim {
	var list []api.Rat
	if s != "" {
		for _, e := range strings.Split(s, ",") {
			list = append(list, readRat(e))
		}
	}
	return dim(list...)
}

// reader makes a graph of words.
type reader struct {
	asked
	stack []int
}

func (r *reader) pop() int {
	last := len(r.stack) - 1
	n := r.stack[last]
	r.stack = r.stack[:last]
	return n
}

func (r *reader) word(w string) {
	switch {
	case w == ";":
		r.roots = append(r.roots, r.pop())
	case w == "!":
		r.rates = append(r.rates, r.pop())
	case w == ".":
		r.pop()
	case w[0] == '#':
		r.stack = append(r.stack, int(readInt(w[1:])))
	default:
		r.node(w)
	}
}

func (r *reader) node(w string) {
	n := api.Node{Kind: signs[w]}
	if v := strings.IndexByte(names, w[0]); v >= 0 && strings.TrimRight(w[1:], "'") == "" {
		n = variable(v, len(w)-1)
	} else if w[0] == '^' {
		n = api.Node{Kind: api.TPow, N: int(readInt(w[1:]))}
	} else if n.Kind == 0 {
		number, d, _ := strings.Cut(w, "@")
		n = api.Node{Kind: api.TConst, Num: readRat(number), Dim: readDim(d)}
	}
	if needs(n.Kind) > 1 {
		n.B = r.pop()
	}
	if needs(n.Kind) > 0 {
		n.A = r.pop()
	}
	r.stack = append(r.stack, len(r.nodes))
	r.nodes = append(r.nodes, n)
}

// read is what is written. It panics, if a node lacks operands, or if some are left.
func read(text string) asked {
	var r reader
	for _, w := range strings.Fields(text) {
		r.word(w)
	}
	if len(r.stack) > 0 {
		panic(fmt.Sprint(text, ": left: ", r.stack))
	}
	return r.asked
}

// String has a graph's nodes one by one, with their operands' numbers.
func (g asked) String() string {
	var words []string
	for i, n := range g.nodes {
		words = append(words, fmt.Sprint(i, ": ", shown(n)))
	}
	return fmt.Sprint(strings.Join(words, ", "), " roots ", g.roots, " rates ", g.rates)
}

func shown(n api.Node) string {
	switch n.Kind {
	case api.TConst:
		d := ""
		if n.Dim != dim() {
			d = fmt.Sprint("@", n.Dim.E)
		}
		return fmt.Sprint(n.Num.N, "/", n.Num.D, d)
	case api.TVar:
		return fmt.Sprint("var", n.Key.V, strings.Repeat("'", min(max(n.Key.K, 0), 9)))
	case api.TPow:
		return fmt.Sprint("#", n.A, " ^", n.N)
	}
	for sign, kind := range signs {
		if kind == n.Kind {
			return strings.Join(slices.Concat([]string{fmt.Sprint("#", n.A), fmt.Sprint("#", n.B)}[:needs(kind)], []string{sign}), " ")
		}
	}
	return fmt.Sprint(n)
}

// fill has a text in all places of a shape.
func fill(shape, text string) string { return strings.ReplaceAll(shape, "{}", text) }
