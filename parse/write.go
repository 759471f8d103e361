package parse

import "orrery/api"

func (p *printer) file(t api.Tree) {
	for _, kid := range t.Kids {
		if kid.Kind == api.DUnit {
			p.put("unit", kid.Name)
			p.dimensionBehind("=", kid)
		} else {
			p.class(kid)
		}
		p.put(";")
	}
}

func (p *printer) class(t api.Tree) {
	word := "model"
	if t.N == connector {
		word = "connector"
	}
	p.put(word, t.Name)
	p.line()
	p.items(t.Kids)
}

// items writes what ends with a `;`, and END behind.
func (p *printer) items(items []api.Tree) {
	for _, item := range items {
		p.item(item)
		p.put(";")
	}
	p.put("end")
}

func (p *printer) item(t api.Tree) {
	switch t.Kind {
	case api.IParam:
		p.put("param", t.Name)
		p.dimensionBehind(":", t.Kids[0])
		p.put("=")
		p.expression(t.Kids[1])
	case api.IVar:
		p.variable(t)
	case api.IPart:
		p.part(t)
	case api.IStart:
		p.start(t)
	case api.IConnect:
		p.called("connect")
		p.expression(t.Kids[0])
		p.put(",")
		p.expression(t.Kids[1])
		p.put(")")
	case api.IEquation:
		p.expression(t.Kids[0])
		p.put("=")
		p.expression(t.Kids[1])
	case api.IFor:
		p.loop(t)
	}
}

func (p *printer) variable(t api.Tree) {
	word := "var"
	if t.Flag {
		word = "flow"
	}
	p.put(word, t.Name)
	p.size(t.N)
	p.dimensionBehind(":", t.Kids[0])
}

func (p *printer) size(n int) {
	if n != 0 {
		p.put("[")
		p.signed(int64(n))
		p.put("]")
	}
}

func (p *printer) part(t api.Tree) {
	p.put("part", t.Name)
	p.size(t.N)
	p.put(":")
	if len(t.Kids) == 0 {
		p.put(t.Alias)
		return
	}
	p.called(t.Alias)
	for i, modifier := range t.Kids {
		if i > 0 {
			p.put(",")
		}
		p.put(modifier.Name, "=")
		p.expression(modifier.Kids[0])
	}
	p.put(")")
}

func (p *printer) start(t api.Tree) {
	p.put("start")
	p.expression(t.Kids[0])
	if same(t.Kids[1], t.Kids[2]) {
		p.put("=")
		p.expression(t.Kids[1])
		return
	}
	p.put("in", "[")
	p.expression(t.Kids[1])
	p.put(",")
	p.expression(t.Kids[2])
	p.put("]")
}

// same tells whether two expressions are the same tree: what an expression's nodes never have is not asked for.
func same(a, b api.Tree) bool {
	if a.Kind != b.Kind || a.Name != b.Name || a.N != b.N || a.Num != b.Num || len(a.Kids) != len(b.Kids) {
		return false
	}
	for i := range a.Kids {
		if !same(a.Kids[i], b.Kids[i]) {
			return false
		}
	}
	return true
}

func (p *printer) loop(t api.Tree) {
	p.put("for", t.Name, "in")
	p.signed(int64(t.N))
	p.put("..")
	p.signed(int64(t.M))
	p.put("do")
	p.line()
	p.items(t.Kids)
}
