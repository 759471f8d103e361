package check

import "orrery/api"

const connector = 2 // N of a DClass that is no model

// items says why a class's items can't stand.
func (f declared) items(class api.Tree) api.Errno {
	b := body{file: f, placed: inModel, once: namedOnce(), params: parametersOf(class), ahead: names{}}
	if class.N == connector {
		b.placed = inConnector
	}
	return within(class.Kids, b.item)
}

// body is a class whose items are gone through.
type body struct {
	file   declared
	placed why   // by the class's kind
	once   why   // of what has a name
	params names // all
	ahead  names // those of the params that are ahead
}

// item says why one can't stand behind those that were handed ahead of it.
func (b body) item(t api.Tree) api.Errno {
	switch t.Kind {
	case api.IParam:
		return all(b.placed, b.once, b.typed, b.parameter)(t)
	case api.IVar:
		return all(b.placed, b.once, sized, b.typed)(t)
	case api.IPart:
		return all(b.placed, b.once, sized, b.part)(t)
	case api.IStart:
		return all(b.placed, b.start)(t)
	case api.IFor:
		return all(b.placed, b.loop)(t)
	}
	return b.placed(t) // of the kinds that are left, as IEquation
}

func inModel(t api.Tree) api.Errno {
	if t.Kind == api.IVar && t.Flag {
		return api.ErrClass
	}
	return api.OK
}

func inConnector(t api.Tree) api.Errno {
	if t.Kind != api.IVar || t.N != 0 {
		return api.ErrClass
	}
	return api.OK
}

func sized(t api.Tree) api.Errno {
	if t.N > api.MaxSize {
		return api.ErrLong
	}
	return api.OK
}

// typed goes through the DType of a parameter or a variable, which has a dimension or none.
func (b body) typed(t api.Tree) api.Errno { return within(t.Kids[0].Kids, b.file.dimension) }

func (b body) parameter(t api.Tree) api.Errno {
	err := constantOver(b.ahead)(t.Kids[1])
	b.ahead.put(t.Name)
	return err
}

func (b body) start(t api.Tree) api.Errno { return within(t.Kids[1:], constantOver(b.params)) }

func (b body) part(t api.Tree) api.Errno {
	class, ok := b.file.classes[t.Alias]
	if !ok {
		return api.ErrName
	}
	return within(t.Kids, all(namedOnce(), namedAsOneOf(parametersOf(class)), b.modifier))
}

func (b body) modifier(t api.Tree) api.Errno { return constantOver(b.params)(t.Kids[0]) }

func (b body) loop(t api.Tree) api.Errno {
	if t.M >= t.N+api.MaxSize {
		return api.ErrLong
	}
	return within(t.Kids, b.item)
}
