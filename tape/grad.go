package tape

import (
	"slices"

	"orrery/api"
	"orrery/elem"
	"orrery/ival"
)

// Grad is the values of a tape's Outs, and of each of them the slopes by all variables.
func Grad(t api.Tape, x []api.Ival) ([]api.Ival, [][]api.Ival, api.Errno) {
	if e := refused(t, x); e != api.OK {
		return nil, nil, e
	}
	values := make([]api.Ival, 0, len(t.Ops))
	slopes := make([][]api.Ival, 0, len(t.Ops))
	for _, o := range t.Ops {
		v, e := nextValue(o, values, x)
		if e != api.OK {
			return nil, nil, e
		}
		row, e := nextSlopes(o, v, values, slopes, t.Vars)
		if e != api.OK {
			return nil, nil, e
		}
		values, slopes = append(values, v), append(slopes, row)
	}
	return atOuts(t, values), slopesAtOuts(t, slopes), api.OK
}

// nextSlopes are those of an operation with the value v, by all variables, behind the values and slopes of all ahead of it.
func nextSlopes(o api.Op, v api.Ival, values []api.Ival, slopes [][]api.Ival, vars int) ([]api.Ival, api.Errno) {
	if vars > 0 && o.Kind == api.TSqrt && ival.Has(v, 0) { // without variables there is no slope that could be outside
		return nil, api.ErrDomain
	}
	row := make([]api.Ival, vars)
	by := slopeRule(o, v, values, slopes)
	for j := range row {
		row[j] = by(j)
		if !isBounded(row[j]) {
			return nil, api.ErrWide
		}
	}
	return row, api.OK
}

// slopeRule is how an operation's slope by the variable j comes of its operands' ones. What is the same for all variables is worked out once.
func slopeRule(o api.Op, v api.Ival, values []api.Ival, slopes [][]api.Ival) func(j int) api.Ival {
	a, b := atOperands(o, values)
	da, db := atOperands(o, slopes)
	switch o.Kind {
	case api.TConst:
		return noSlope
	case api.TVar:
		return func(j int) api.Ival { return ownSlope(j == o.N) }
	case api.TAdd:
		return func(j int) api.Ival { return ival.Add(da[j], db[j]) }
	case api.TSub:
		return func(j int) api.Ival { return ival.Sub(da[j], db[j]) }
	case api.TMul:
		return func(j int) api.Ival { return ival.Add(ival.Mul(da[j], b), ival.Mul(a, db[j])) }
	case api.TDiv:
		return func(j int) api.Ival { return ival.Div(ival.Sub(da[j], ival.Mul(v, db[j])), b) }
	case api.TNeg:
		return func(j int) api.Ival { return ival.Neg(da[j]) }
	case api.TPow:
		return powerRule(a, o.N, da)
	case api.TSqrt:
		return divided(da, ival.Mul(ival.Point(2), v))
	case api.TExp:
		return multiplied(v, da)
	case api.TLog:
		return divided(da, a)
	case api.TSin:
		return multiplied(elem.Cos(a), da)
	case api.TCos:
		rising := multiplied(elem.Sin(a), da)
		return func(j int) api.Ival { return ival.Neg(rising(j)) }
	}
	return divided(da, ival.Add(ival.Point(1), ival.Sqr(a))) // TAtan
}

func noSlope(int) api.Ival { return ival.Point(0) }

// ownSlope is that of a variable, by itself or by another.
func ownSlope(itself bool) api.Ival {
	if itself {
		return ival.Point(1)
	}
	return ival.Point(0)
}

func powerRule(a api.Ival, n int, da []api.Ival) func(j int) api.Ival {
	if n == 0 {
		return noSlope
	}
	return multiplied(ival.Mul(ival.Point(float64(n)), ival.Pow(a, n-1)), da)
}

func multiplied(factor api.Ival, da []api.Ival) func(j int) api.Ival {
	return func(j int) api.Ival { return ival.Mul(factor, da[j]) }
}

func divided(da []api.Ival, divisor api.Ival) func(j int) api.Ival {
	return func(j int) api.Ival { return ival.Div(da[j], divisor) }
}

// slopesAtOuts has a copy for each of Outs: one operation may be there twice.
func slopesAtOuts(t api.Tape, slopes [][]api.Ival) [][]api.Ival {
	outs := make([][]api.Ival, len(t.Outs))
	for i, n := range t.Outs {
		outs[i] = slices.Clone(slopes[n])
	}
	return outs
}
