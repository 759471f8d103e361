package tape

import (
	"math"

	"orrery/api"
	"orrery/elem"
	"orrery/ival"
)

// Eval is the values of a tape's Outs, with x as its variables.
func Eval(t api.Tape, x []api.Ival) ([]api.Ival, api.Errno) {
	if e := refused(t, x); e != api.OK {
		return nil, e
	}
	values := make([]api.Ival, 0, len(t.Ops))
	for _, o := range t.Ops {
		v, e := nextValue(o, values, x)
		if e != api.OK {
			return nil, e
		}
		values = append(values, v)
	}
	return atOuts(t, values), api.OK
}

// refused tells why a tape can't be gone through at all, if so.
func refused(t api.Tape, x []api.Ival) api.Errno {
	if e := Right(t); e != api.OK {
		return e
	}
	if len(x) != t.Vars {
		return api.ErrArg
	}
	for _, v := range x {
		if !mayBeAndHolds(v) {
			return api.ErrArg
		}
	}
	return api.OK
}

// nextValue is an operation's value behind those of all ahead of it.
func nextValue(o api.Op, ahead, x []api.Ival) (api.Ival, api.Errno) {
	a, b := atOperands(o, ahead)
	if isOutside(o, a, b) {
		return api.Ival{}, api.ErrDomain
	}
	v := valueOf(o, a, b, x)
	if !isBounded(v) {
		return api.Ival{}, api.ErrWide
	}
	return v, api.OK
}

// isOutside takes operands that are bounded, as all values are behind which a tape goes on.
func isOutside(o api.Op, a, b api.Ival) bool {
	switch o.Kind {
	case api.TDiv:
		return ival.Has(b, 0)
	case api.TPow:
		return o.N < 0 && ival.Has(a, 0)
	case api.TSqrt:
		return a.Lo < 0
	case api.TLog:
		return a.Lo <= 0
	}
	return false
}

func isBounded(x api.Ival) bool { return !math.IsInf(x.Lo, 0) && !math.IsInf(x.Hi, 0) }

func valueOf(o api.Op, a, b api.Ival, x []api.Ival) api.Ival {
	switch o.Kind {
	case api.TConst:
		return o.Lit
	case api.TVar:
		return x[o.N]
	case api.TAdd:
		return ival.Add(a, b)
	case api.TSub:
		return ival.Sub(a, b)
	case api.TMul:
		return ival.Mul(a, b)
	case api.TDiv:
		return ival.Div(a, b)
	case api.TNeg:
		return ival.Neg(a)
	case api.TPow:
		return ival.Pow(a, o.N)
	case api.TSqrt:
		return ival.Sqrt(a)
	case api.TExp:
		return elem.Exp(a)
	case api.TLog:
		return elem.Log(a)
	case api.TSin:
		return elem.Sin(a)
	case api.TCos:
		return elem.Cos(a)
	}
	return elem.Atan(a)
}

func atOuts(t api.Tape, values []api.Ival) []api.Ival {
	outs := make([]api.Ival, len(t.Outs))
	for i, n := range t.Outs {
		outs[i] = values[n]
	}
	return outs
}
