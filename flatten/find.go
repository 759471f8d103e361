package flatten

import "orrery/api"

// found is what a reference is of: a variable, a parameter or an instance.
type found struct {
	*item
	at int // of an array's: which one, from 0 on
}

// find goes along a reference's parts, from an instance on.
func (in *instance) find(parts []api.Tree, loop loops) found {
	it, ok := in.items[parts[0].Name]
	if !ok {
		panic(stop{api.ErrName})
	}
	f := found{it, it.index(parts[0].Kids, loop)}
	if len(parts) == 1 {
		return f
	}
	return f.instance().find(parts[1:], loop)
}

// index is the place in an array, 0 of what is none.
func (it *item) index(written []api.Tree, loop loops) int {
	if len(written) == 0 {
		if it.size != 0 {
			panic(stop{api.ErrIndex})
		}
		return 0
	}
	n := loop.number(written[0])
	if n < 1 || n > it.size {
		panic(stop{api.ErrIndex})
	}
	return n - 1
}

// variable is its number. What is none gives up.
func (f found) variable() int {
	if f.kind != api.IVar {
		panic(stop{api.ErrClass})
	}
	return f.first + f.at
}

// instance is the one that was found. What is none gives up.
func (f found) instance() *instance {
	if f.kind != api.IPart {
		panic(stop{api.ErrClass})
	}
	return f.parts[f.at]
}

// loops tells the number of a loop variable.
type loops func(name string) int

// noLoop is outside of all loops.
func noLoop(string) int { panic(stop{api.ErrName}) }

// with is within a loop: its variable hides one of the same name outside.
func (outside loops) with(name string, n int) loops {
	return func(asked string) int {
		if asked == name {
			return n
		}
		return outside(asked)
	}
}

// number is what an index says.
func (l loops) number(t api.Tree) int {
	switch t.Kind {
	case api.EAdd:
		return l.number(t.Kids[0]) + l.number(t.Kids[1])
	case api.ESub:
		return l.number(t.Kids[0]) - l.number(t.Kids[1])
	case api.ERef:
		return l(t.Kids[0].Name)
	}
	return int(t.Num.N)
}
