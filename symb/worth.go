package symb

import (
	"orrery/api"
	"orrery/rat"
)

// worth is the number that a node is, if that is told by its operands' numbers, and has room.
func (g *graph) worth(n api.Node) (api.Rat, bool) {
	count := operands(n.Kind)
	if count == 0 || g.nodes[n.A].Kind != api.TConst {
		return api.Rat{}, false
	}
	a := g.nodes[n.A].Num
	if count == 1 {
		return ofOne(n, a)
	}
	if g.nodes[n.B].Kind != api.TConst {
		return api.Rat{}, false
	}
	num, err := ofTwo(n.Kind, a, g.nodes[n.B].Num)
	return num, err == api.OK
}

func ofTwo(kind int, a, b api.Rat) (api.Rat, api.Errno) {
	switch kind {
	case api.TAdd:
		return rat.Add(a, b)
	case api.TSub:
		return rat.Sub(a, b)
	case api.TMul:
		return rat.Mul(a, b)
	}
	return rat.Div(a, b)
}

func ofOne(n api.Node, a api.Rat) (api.Rat, bool) {
	switch n.Kind {
	case api.TNeg:
		num, err := rat.Sub(whole(0), a)
		return num, err == api.OK
	case api.TPow:
		num, err := rat.Pow(a, n.N)
		return num, err == api.OK
	}
	return known(n.Kind, a)
}

// known is what a root, or a function beyond roots, is at the few numbers where it is one.
func known(kind int, a api.Rat) (api.Rat, bool) {
	switch kind {
	case api.TSqrt:
		return a, a == whole(0) || a == whole(1)
	case api.TSin, api.TAtan:
		return a, a == whole(0)
	case api.TExp, api.TCos:
		return whole(1), a == whole(0)
	}
	return whole(0), a == whole(1) // TLog
}
