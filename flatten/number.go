package flatten

import (
	"orrery/api"
	"orrery/rat"
)

// number is that of a constant expression, over an instance's parameters.
func (in *instance) number(t api.Tree) api.Rat {
	switch t.Kind {
	case api.ENum:
		return t.Num
	case api.ERef:
		return in.items[t.Kids[0].Name].number
	case api.ENeg:
		return must(rat.Sub(api.Rat{N: 0, D: 1}, in.number(t.Kids[0])))
	case api.EPow:
		return must(rat.Pow(in.number(t.Kids[0]), t.N))
	}
	a, b := in.number(t.Kids[0]), in.number(t.Kids[1])
	switch t.Kind {
	case api.EAdd:
		return must(rat.Add(a, b))
	case api.ESub:
		return must(rat.Sub(a, b))
	case api.EMul:
		return must(rat.Mul(a, b))
	}
	return must(rat.Div(a, b))
}
