package unit

import (
	"orrery/api"
	"orrery/rat"
)

// solved are the dimensions with which all rules hold, from those that all others would have.
func solved(rules []product, dims []api.Dim) []api.Dim {
	var all []kept
	for _, rule := range rules {
		rule = freed(rule, all)
		switch {
		case len(rule.factors) > 0:
			all = append(all, keep(rule))
		case !isPlain(rule.dim):
			panic(stop{api.ErrUnit})
		}
	}
	for i := len(all) - 1; i >= 0; i-- {
		dims[all[i].own] = all[i].told(dims)
	}
	return dims
}

// kept is a rule with an unknown of its own, whose exponent is 1.
type kept struct {
	own  int
	rule product
}

// keep makes a rule's first unknown its own.
func keep(rule product) kept {
	first := rule.factors[0]
	return kept{first.unknown, rule.power(must(rat.Div(whole(1), first.exponent)))}
}

// freed is a rule without the unknowns of those that are kept.
func freed(rule product, all []kept) product {
	for _, k := range all {
		if e := rule.exponent(k.own); e != whole(0) {
			rule = rule.times(k.rule, must(rat.Sub(whole(0), e)))
		}
	}
	return rule
}

// told is what the own unknown must be: the negative of all else.
func (k kept) told(dims []api.Dim) api.Dim {
	sum := k.rule.dim
	for _, f := range k.rule.factors {
		if f.unknown != k.own {
			sum = times(sum, dims[f.unknown], f.exponent)
		}
	}
	return times(Plain(), sum, whole(-1))
}
