package parse

import "orrery/api"

// What a class's N tells.
const (
	model     = 1
	connector = 2
)

func (r *reader) file() api.Tree {
	var kids []api.Tree
	for r.next().Kind != api.KEnd {
		kids = append(kids, r.declaration())
		r.must(";")
	}
	return api.Tree{Kind: api.DFile, Kids: kids}
}

func (r *reader) declaration() api.Tree {
	switch {
	case r.took("unit"):
		return api.Tree{Kind: api.DUnit, Name: r.name(), Kids: r.dimensionBehind("=")}
	case r.took("model"):
		return r.class(model)
	case r.took("connector"):
		return r.class(connector)
	}
	panic(r.wrong())
}

func (r *reader) class(n int) api.Tree {
	return api.Tree{Kind: api.DClass, Name: r.name(), N: n, Kids: r.upToEnd(r.item)}
}

func (r *reader) item() api.Tree {
	switch {
	case r.took("param"):
		return api.Tree{Kind: api.IParam, Name: r.name(), Kids: []api.Tree{r.dimensioned(), r.equals()}}
	case r.took("var"):
		return r.variable(false)
	case r.took("flow"):
		return r.variable(true)
	case r.took("part"):
		return r.part()
	case r.took("start"):
		return r.start()
	}
	return r.rule()
}

// dimensioned reads what may say a dimension, behind a `:`.
func (r *reader) dimensioned() api.Tree {
	return api.Tree{Kind: api.DType, Kids: r.dimensionBehind(":")}
}

// equals reads an expression that stands behind a `=`.
func (r *reader) equals() api.Tree {
	r.must("=")
	return r.expression()
}

func (r *reader) variable(flow bool) api.Tree {
	return api.Tree{Kind: api.IVar, Name: r.name(), N: r.size(), Flag: flow, Kids: []api.Tree{r.dimensioned()}}
}

// size reads how many there are, between brackets; 0 without them.
func (r *reader) size() int {
	if !r.took("[") {
		return 0
	}
	n := r.whole(0, maxCount)
	r.must("]")
	return n
}

func (r *reader) part() api.Tree {
	t := api.Tree{Kind: api.IPart, Name: r.name(), N: r.size()}
	r.must(":")
	t.Alias = r.name()
	if r.sees("(") {
		t.Kids = within(r, func() []api.Tree { return r.listed(",", r.modifier) })
	}
	return t
}

func (r *reader) modifier() api.Tree {
	return api.Tree{Kind: api.IMod, Name: r.name(), Kids: []api.Tree{r.equals()}}
}

func (r *reader) start() api.Tree {
	what := r.started()
	if r.took("in") {
		return r.between(what)
	}
	at := r.at
	low := r.equals()
	r.at = at // once more: so the two have no memory in common
	high := r.equals()
	return node(api.IStart, what, low, high)
}

// started reads what a start is of.
func (r *reader) started() api.Tree {
	if r.sees("der") {
		return r.derivative()
	}
	return r.reference()
}

// between reads the two ends of a start.
func (r *reader) between(what api.Tree) api.Tree {
	r.must("[")
	low := r.expression()
	r.must(",")
	high := r.expression()
	r.must("]")
	return node(api.IStart, what, low, high)
}

func (r *reader) rule() api.Tree {
	switch {
	case r.took("connect"):
		return within(r, r.connected)
	case r.sees("for"):
		return r.loop()
	}
	left := r.expression()
	right := r.equals()
	return node(api.IEquation, left, right)
}

func (r *reader) connected() api.Tree {
	first := r.reference()
	r.must(",")
	second := r.reference()
	return node(api.IConnect, first, second)
}

func (r *reader) loop() api.Tree {
	r.enter("for")
	t := api.Tree{Kind: api.IFor, Name: r.name()}
	r.must("in")
	t.N = r.whole(0, maxCount)
	r.must("..")
	t.M = r.whole(0, maxCount)
	r.must("do")
	t.Kids = r.upToEnd(r.rule)
	r.open--
	return t
}
