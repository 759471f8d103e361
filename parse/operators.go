package parse

import "orrery/api"

func (p *printer) expression(t api.Tree) {
	switch t.Kind {
	case api.ENum:
		p.put(digits(t.Num))
	case api.ERef:
		p.reference(t)
	case api.EDer:
		p.called("der")
		p.reference(t.Kids[0])
		p.put(")")
	case api.ETime:
		p.put("time")
	case api.ECall:
		p.called(functionWord(t.N))
		p.expression(t.Kids[0])
		p.put(")")
	case api.ENeg:
		p.put("-")
		p.join()
		p.operand(t.Kids[0])
	case api.EPow:
		p.operand(t.Kids[0])
		p.put("^")
		p.signed(int64(t.N))
	default:
		p.operand(t.Kids[0])
		p.put(signOf(t.Kind))
		p.operand(t.Kids[1])
	}
}

// operand writes an operator's operand: between parentheses, if it is an operator's own.
func (p *printer) operand(t api.Tree) {
	if t.Kind < api.ENeg {
		p.expression(t)
		return
	}
	p.put("(")
	p.expression(t)
	p.put(")")
}

func (p *printer) reference(t api.Tree) {
	for i, element := range t.Kids {
		if i > 0 {
			p.put(".")
		}
		p.put(element.Name)
		if len(element.Kids) > 0 {
			p.put("[")
			p.expression(element.Kids[0])
			p.put("]")
		}
	}
}

// dimensionBehind writes the dimension that a node has, if it has one, behind that sign.
func (p *printer) dimensionBehind(sign string, t api.Tree) {
	if len(t.Kids) > 0 {
		p.put(sign)
		p.dimension(t.Kids[0])
	}
}

func (p *printer) dimension(t api.Tree) {
	switch t.Kind {
	case api.UOne:
		p.put("1")
	case api.UName:
		p.put(t.Name)
	case api.UPow:
		p.dimensionOperand(t.Kids[0])
		p.put("^")
		p.exponent(t.Num)
	default:
		p.dimensionOperand(t.Kids[0])
		p.put(signOf(t.Kind))
		p.dimensionOperand(t.Kids[1])
	}
}

func (p *printer) dimensionOperand(t api.Tree) {
	if t.Kind < api.UMul {
		p.dimension(t)
		return
	}
	p.put("(")
	p.dimension(t)
	p.put(")")
}

func (p *printer) exponent(n api.Rat) {
	if n.D == 1 {
		p.signed(n.N)
		return
	}
	p.put("(")
	p.signed(n.N)
	p.put("/")
	p.signed(n.D)
	p.put(")")
}
