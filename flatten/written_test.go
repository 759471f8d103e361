package flatten_test

// Flat models as texts: the variables, the nodes in their order, and the starts, with a bar between. Nodes take their operands from a stack, as they are made with Kids first: what is left at a semicolon is an equation. A number, or a variable ahead of the bar, has the exponents of its dimension behind @, if it isn't plain; a variable has ' behind it for a derivative.

import (
	"fmt"
	"slices"
	"strconv"
	"strings"

	"orrery/api"
	"orrery/rat"
)

// signs are the nodes that have operands, but for powers.
var signs = map[int]string{api.TAdd: "+", api.TSub: "-", api.TMul: "*", api.TDiv: "/", api.TNeg: "neg", api.TSqrt: "sqrt", api.TExp: "exp", api.TLog: "log", api.TSin: "sin", api.TCos: "cos", api.TAtan: "atan"}

func plain() api.Dim {
	var d api.Dim
	for i := range d.E {
		d.E[i].D = 1
	}
	return d
}

func writtenDim(d api.Dim) string {
	if d == plain() {
		return ""
	}
	var list []string
	for _, e := range d.E {
		list = append(list, rat.Print(e))
	}
	for list[len(list)-1] == "0" {
		list = list[:len(list)-1]
	}
	return "@" + strings.Join(list, ",")
}

func readDim(s string) api.Dim {
	d := plain()
	if s != "" {
		for i, e := range strings.Split(s, ",") {
			d.E[i] = readRat(e)
		}
	}
	return d
}

func readRat(s string) api.Rat {
	n, d, quotient := strings.Cut(s, "/")
	if !quotient {
		d = "1"
	}
	return api.Rat{N: readInt(n), D: readInt(d)}
}

func readInt(s string) int64 {
	n, err := strconv.ParseInt(s, 10, 64)
	if err != nil {
		panic(s)
	}
	return n
}

func key(names []string, k api.Key) string {
	return names[k.V] + strings.Repeat("'", k.K)
}

// written is a flat model's text.
func written(f api.Flat) string {
	var names, words []string
	for _, v := range f.Vars {
		names = append(names, v.Name)
		words = append(words, v.Name+writtenDim(v.Dim))
	}
	words = append(words, "|")
	eqs := f.Eqs
	for i, n := range f.Nodes {
		words = append(words, writtenNode(names, n))
		for ; len(eqs) > 0 && eqs[0] == i; eqs = eqs[1:] {
			words = append(words, ";")
		}
	}
	words = append(words, "|")
	for _, s := range f.Starts {
		words = append(words, key(names, s.Key), rat.Print(s.Lo), rat.Print(s.Hi))
	}
	return strings.Join(words, " ")
}

func writtenNode(names []string, n api.Node) string {
	switch n.Kind {
	case api.TConst:
		return rat.Print(n.Num) + writtenDim(n.Dim)
	case api.TVar:
		return key(names, n.Key)
	case api.TTime:
		return "time"
	case api.TPow:
		return "^" + strconv.Itoa(n.N)
	}
	return signs[n.Kind]
}

// reader makes a flat model of words.
type reader struct {
	flat  api.Flat
	names []string
	stack []int
}

func (r *reader) pop() int {
	last := len(r.stack) - 1
	n := r.stack[last]
	r.stack = r.stack[:last]
	return n
}

func (r *reader) key(word string) (api.Key, bool) {
	name := strings.TrimRight(word, "'")
	at := slices.Index(r.names, name)
	return api.Key{V: at, K: len(word) - len(name)}, at >= 0
}

func (r *reader) node(word string) {
	if word == ";" {
		r.flat.Eqs = append(r.flat.Eqs, r.pop())
		return
	}
	n := api.Node{}
	if k, ok := r.key(word); ok {
		n = api.Node{Kind: api.TVar, Key: k}
	} else if word == "time" {
		n.Kind = api.TTime
	} else if word[0] == '^' {
		n = api.Node{Kind: api.TPow, A: r.pop(), N: int(readInt(word[1:]))}
	} else if kind := kindOf(word); kind != 0 {
		n.Kind = kind
		if kind <= api.TDiv {
			n.B = r.pop()
		}
		n.A = r.pop()
	} else {
		number, dim, _ := strings.Cut(word, "@")
		n = api.Node{Kind: api.TConst, Num: readRat(number), Dim: readDim(dim)}
	}
	r.stack = append(r.stack, len(r.flat.Nodes))
	r.flat.Nodes = append(r.flat.Nodes, n)
}

func kindOf(word string) int {
	for kind, sign := range signs {
		if sign == word {
			return kind
		}
	}
	return 0
}

// read is what is written. It panics, if a node lacks operands, or if some are left behind the last equation.
func read(text string) api.Flat {
	parts := strings.Split(text, "|")
	var r reader
	for _, word := range strings.Fields(parts[0]) {
		name, dim, _ := strings.Cut(word, "@")
		r.names = append(r.names, name)
		r.flat.Vars = append(r.flat.Vars, api.FlatVar{Name: name, Dim: readDim(dim)})
	}
	for _, word := range strings.Fields(parts[1]) {
		r.node(word)
	}
	if len(r.stack) > 0 {
		panic(fmt.Sprint("left: ", r.stack))
	}
	starts := strings.Fields(parts[2])
	for ; len(starts) > 0; starts = starts[3:] {
		k, ok := r.key(starts[0])
		if !ok {
			panic(starts[0])
		}
		r.flat.Starts = append(r.flat.Starts, api.Start{Key: k, Lo: readRat(starts[1]), Hi: readRat(starts[2])})
	}
	return r.flat
}
