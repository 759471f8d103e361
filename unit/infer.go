package unit

import "orrery/api"

// Infer finds the dimensions of variables that are not given, so that all expressions fit.
func Infer(nodes []api.Node, eqs []int, vars []api.Dim, given []bool, second api.Dim) ([]api.Dim, api.Errno) {
	if !graphRight(nodes) || !allBelow(eqs, len(nodes)) {
		return nil, api.ErrGraph
	}
	needed := neededBy(eqs, nodes)
	v := variables{vars, given, second}
	if !v.right() || !v.have(nodes, needed) {
		return nil, api.ErrArg
	}
	return tried(func() []api.Dim { return solved(rulesOf(nodes, needed, v), v.start()) })
}

// variables have dimensions, as far as these are given.
type variables struct {
	dims   []api.Dim
	given  []bool
	second api.Dim
}

func (v variables) right() bool {
	if len(v.given) != len(v.dims) || !Right(v.second) {
		return false
	}
	for i, d := range v.dims {
		if v.given[i] && !Right(d) {
			return false
		}
	}
	return true
}

// have tells whether all variables are there that needed nodes are of.
func (v variables) have(nodes []api.Node, needed []bool) bool {
	for i, n := range nodes {
		if needed[i] && n.Kind == api.TVar && n.Key.V >= len(v.dims) {
			return false
		}
	}
	return true
}

// start is what all variables are, ahead of all rules.
func (v variables) start() []api.Dim {
	dims := make([]api.Dim, len(v.dims))
	for i := range dims {
		dims[i] = Plain()
		if v.given[i] {
			dims[i] = v.dims[i]
		}
	}
	return dims
}

func (v variables) of(k api.Key) product {
	d := ofUnknown(k.V)
	if v.given[k.V] {
		d = ofKnown(v.dims[k.V])
	}
	return d.times(ofKnown(v.second), whole(-k.K))
}

// rulesOf are what must be plain, in order, of the nodes that are needed.
func rulesOf(nodes []api.Node, needed []bool, v variables) []product {
	var rules []product
	dims := make([]product, len(nodes))
	for i, n := range nodes {
		if !needed[i] {
			continue
		}
		dims[i] = dimensionOf(n, nodes, dims, v)
		rules = append(rules, ruleOf(n, nodes, dims)...)
	}
	return rules
}

// dimensionOf is a node's, of those of its operands.
func dimensionOf(n api.Node, nodes []api.Node, dims []product, v variables) product {
	switch n.Kind {
	case api.TConst:
		return ofKnown(n.Dim)
	case api.TVar:
		return v.of(n.Key)
	case api.TTime:
		return ofKnown(v.second)
	case api.TAdd, api.TSub:
		if isFree(nodes[n.A]) {
			return dims[n.B]
		}
		return dims[n.A]
	case api.TMul:
		return dims[n.A].times(dims[n.B], whole(1))
	case api.TDiv:
		return dims[n.A].times(dims[n.B], whole(-1))
	case api.TNeg:
		return dims[n.A]
	case api.TPow:
		return dims[n.A].power(whole(n.N))
	case api.TSqrt:
		return dims[n.A].power(api.Rat{N: 1, D: 2})
	}
	return ofKnown(Plain())
}

// ruleOf is what must be plain of a node's operands, if anything.
func ruleOf(n api.Node, nodes []api.Node, dims []product) []product {
	switch n.Kind {
	case api.TAdd, api.TSub:
		if !isFree(nodes[n.A]) && !isFree(nodes[n.B]) {
			return []product{dims[n.A].times(dims[n.B], whole(-1))}
		}
	case api.TExp, api.TLog, api.TSin, api.TCos, api.TAtan:
		if !isFree(nodes[n.A]) {
			return []product{dims[n.A]}
		}
	}
	return nil
}
