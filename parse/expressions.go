package parse

import "orrery/api"

func (r *reader) expression() api.Tree { return r.row(r.product, api.EAdd, api.ESub) }

func (r *reader) product() api.Tree { return r.row(r.turned, api.EMul, api.EDiv) }

// turned reads a power, or the negative of one.
func (r *reader) turned() api.Tree {
	if !r.sees("-") {
		return r.power()
	}
	r.enter("-")
	t := r.turned()
	r.open--
	return node(api.ENeg, t)
}

func (r *reader) power() api.Tree {
	t := r.prime()
	if r.took("^") {
		return api.Tree{Kind: api.EPow, N: r.exponent(), Kids: []api.Tree{t}}
	}
	return t
}

// exponent reads a whole number with its sign.
func (r *reader) exponent() int {
	if r.took("-") {
		return -r.whole(0, api.MaxPower)
	}
	return r.whole(0, api.MaxPower)
}

func (r *reader) prime() api.Tree {
	switch {
	case r.next().Kind == api.KNumber:
		return api.Tree{Kind: api.ENum, Num: r.number(isNumber)}
	case r.took("time"):
		return api.Tree{Kind: api.ETime}
	case r.sees("der"):
		return r.derivative()
	case functionOf(r.next().S) != 0:
		return r.call()
	case r.sees("("):
		return within(r, r.expression)
	}
	return r.reference()
}

func (r *reader) call() api.Tree {
	function := functionOf(r.next().S)
	r.at++
	return api.Tree{Kind: api.ECall, N: function, Kids: []api.Tree{within(r, r.expression)}}
}

func (r *reader) derivative() api.Tree {
	r.must("der")
	return node(api.EDer, within(r, r.reference))
}

func (r *reader) reference() api.Tree {
	return api.Tree{Kind: api.ERef, Kids: r.listed(".", r.element)}
}

func (r *reader) element() api.Tree {
	t := api.Tree{Kind: api.EPart, Name: r.name()}
	if r.took("[") {
		t.Kids = []api.Tree{r.index()}
		r.must("]")
	}
	return t
}

func (r *reader) index() api.Tree {
	if r.next().Kind != api.KName {
		return r.place()
	}
	variable := node(api.ERef, api.Tree{Kind: api.EPart, Name: r.name()})
	if kind := r.operator(api.EAdd, api.ESub); kind != 0 {
		return node(kind, variable, r.place())
	}
	return variable
}

// place reads the number of one of an array.
func (r *reader) place() api.Tree {
	return api.Tree{Kind: api.ENum, Num: api.Rat{N: int64(r.whole(0, maxCount)), D: 1}}
}
