package tape

import "orrery/api"

// Trim leaves out what is there twice, and what none of Outs needs.
func Trim(t api.Tape) (api.Tape, api.Errno) {
	if e := Right(t); e != api.OK {
		return api.Tape{}, e
	}
	trimmed := api.Tape{Vars: t.Vars}
	need := needed(t)
	first := map[api.Op]int{}
	place := make([]int, len(t.Ops)) // where each operation that is needed stands now
	for i, o := range t.Ops {
		if !need[i] {
			continue
		}
		moved := movedTo(place, o)
		at, there := first[moved]
		if !there {
			at = len(trimmed.Ops)
			first[moved] = at
			trimmed.Ops = append(trimmed.Ops, moved)
		}
		place[i] = at
	}
	for _, n := range t.Outs {
		trimmed.Outs = append(trimmed.Outs, place[n])
	}
	return trimmed, api.OK
}

// needed tells of each operation whether some of Outs needs it, by itself or by others: these stand behind it.
func needed(t api.Tape) []bool {
	need := make([]bool, len(t.Ops))
	for _, n := range t.Outs {
		need[n] = true
	}
	for i := len(t.Ops) - 1; i >= 0; i-- {
		if !need[i] {
			continue
		}
		for _, n := range operands(t.Ops[i]) {
			need[n] = true
		}
	}
	return need
}

// movedTo is an operation with its operands at their new places, and nothing in fields that it does not need: so those that are the same are equal as a whole.
func movedTo(place []int, o api.Op) api.Op {
	moved := api.Op{Kind: o.Kind}
	moved.A, moved.B = atOperands(o, place)
	switch o.Kind {
	case api.TConst:
		moved.Lit = o.Lit
	case api.TVar, api.TPow:
		moved.N = o.N
	}
	return moved
}
