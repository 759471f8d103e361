package taylor

import (
	"orrery/api"
	"orrery/ival"
)

// work is a series on its way. It embeds what it counts with, so that the same rules are gone through for plain intervals and for those with slopes.
type work[T any] struct {
	arithmetic[T]
	tape      api.Tape
	variables [][]T      // by order, then by variable
	done      []terms[T] // by operation
}

// terms are an operation's coefficients, as far as they are worked out.
type terms[T any] struct {
	own    []T
	beside [][]T // those of series that it is made of: nobody asks whether these have an end
}

// series are the coefficients from 0 to an order, each of all variables, of a field and a beginning that are not refused.
func series[T any](with arithmetic[T], t api.Tape, begin []T, order int) ([][]T, api.Errno) {
	w := &work[T]{arithmetic: with, tape: t, variables: [][]T{begin}, done: make([]terms[T], len(t.Ops))}
	for i, o := range t.Ops {
		w.done[i].beside = make([][]T, seriesBeside(o))
	}
	for k := range order {
		if e := w.oneOrder(k); e != api.OK {
			return nil, e
		}
	}
	return w.variables, api.OK
}

// oneOrder is that of all operations, and the next one of the variables.
func (w *work[T]) oneOrder(k int) api.Errno {
	for i, o := range w.tape.Ops {
		c, e := w.next(k, o, &w.done[i])
		if e != api.OK {
			return e
		}
		w.done[i].own = append(w.done[i].own, c)
	}
	w.variables = append(w.variables, w.nextOfVariables(k))
	return api.OK
}

// nextOfVariables is never wide: what is bounded is so by a whole number, too.
func (w *work[T]) nextOfVariables(k int) []T {
	row := make([]T, len(w.tape.Outs))
	for i, n := range w.tape.Outs {
		row[i] = w.div(w.done[n].own[k], w.whole(k+1))
	}
	return row
}

// next is an operation's coefficient behind those of lower orders, and those of all operations ahead.
func (w *work[T]) next(k int, o api.Op, v *terms[T]) (T, api.Errno) {
	var nothing T
	a, b := w.operands(o)
	if w.isOutside(k, o, a, b, v.own) {
		return nothing, api.ErrDomain
	}
	c := w.coefficient(k, o, a, b, v)
	if !w.isBounded(c) {
		return nothing, api.ErrWide
	}
	return c, api.OK
}

// operands are the coefficients of A and B: none, where the kind does not need them.
func (w *work[T]) operands(o api.Op) (a, b []T) {
	switch o.Kind {
	case api.TConst, api.TVar:
		return nil, nil
	case api.TAdd, api.TSub, api.TMul, api.TDiv:
		return w.done[o.A].own, w.done[o.B].own
	}
	return w.done[o.A].own, nil
}

func (w *work[T]) isOutside(k int, o api.Op, a, b, v []T) bool {
	switch k {
	case 0:
		return w.hasNoValue(o, a, b)
	case 1:
		return o.Kind == api.TSqrt && w.holdsZero(v[0])
	}
	return false
}

// hasNoValue asks as a tape does (chapter 5). It takes operands that are bounded, as all are behind which a series goes on.
func (w *work[T]) hasNoValue(o api.Op, a, b []T) bool {
	switch o.Kind {
	case api.TDiv:
		return w.holdsZero(b[0])
	case api.TPow:
		return o.N < 0 && w.holdsZero(a[0])
	case api.TSqrt:
		return w.valueOf(a[0]).Lo < 0
	case api.TLog:
		return w.valueOf(a[0]).Lo <= 0
	}
	return false
}

func (w *work[T]) holdsZero(a T) bool { return ival.Has(w.valueOf(a), 0) }

func (w *work[T]) whole(n int) T { return w.steady(ival.Point(float64(n))) }
