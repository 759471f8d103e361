package parse

import (
	"orrery/api"
	"orrery/rat"
)

// dimensionBehind reads a dimension behind that sign, if it is there.
func (r *reader) dimensionBehind(sign string) []api.Tree {
	if !r.took(sign) {
		return nil
	}
	return []api.Tree{r.dimension()}
}

func (r *reader) dimension() api.Tree { return r.row(r.dimensionPower, api.UMul, api.UDiv) }

func (r *reader) dimensionPower() api.Tree {
	t := r.dimensionPrime()
	if r.took("^") {
		return api.Tree{Kind: api.UPow, Num: r.dimensionExponent(), Kids: []api.Tree{t}}
	}
	return t
}

func (r *reader) dimensionPrime() api.Tree {
	switch {
	case r.next().Kind == api.KNumber:
		r.whole(1, 1)
		return api.Tree{Kind: api.UOne}
	case r.sees("("):
		return within(r, r.dimension)
	}
	return api.Tree{Kind: api.UName, Name: r.name()}
}

func (r *reader) dimensionExponent() api.Rat {
	if r.sees("(") {
		return within(r, r.quotient)
	}
	return api.Rat{N: int64(r.exponent()), D: 1}
}

func (r *reader) quotient() api.Rat {
	over := r.exponent()
	r.must("/")
	under := r.whole(1, api.MaxPower)
	q, _ := rat.Make(int64(over), int64(under)) // has room: both are small, and under is not 0
	return q
}
