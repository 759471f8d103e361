package taylor

import (
	"orrery/api"
	"orrery/elem"
	"orrery/ival"
)

// arithmetic is what a series is counted with: intervals, plain or with a slope each.
type arithmetic[T any] interface {
	steady(x api.Ival) T // x, wherever the series begins
	valueOf(a T) api.Ival
	isBounded(a T) bool
	neg(a T) T
	add(a, b T) T
	sub(a, b T) T
	mul(a, b T) T
	div(a, b T) T
	function(kind int, a T) T // TSqrt to TAtan
}

// plain counts with intervals alone.
type plain struct{}

func (plain) steady(x api.Ival) api.Ival  { return x }
func (plain) valueOf(a api.Ival) api.Ival { return a }
func (plain) isBounded(a api.Ival) bool   { return !hasNoEnd(a) }
func (plain) neg(a api.Ival) api.Ival     { return ival.Neg(a) }
func (plain) add(a, b api.Ival) api.Ival  { return ival.Add(a, b) }
func (plain) sub(a, b api.Ival) api.Ival  { return ival.Sub(a, b) }
func (plain) mul(a, b api.Ival) api.Ival  { return ival.Mul(a, b) }
func (plain) div(a, b api.Ival) api.Ival  { return ival.Div(a, b) }

func (plain) function(kind int, a api.Ival) api.Ival {
	switch kind {
	case api.TSqrt:
		return ival.Sqrt(a)
	case api.TExp:
		return elem.Exp(a)
	case api.TLog:
		return elem.Log(a)
	case api.TSin:
		return elem.Sin(a)
	case api.TCos:
		return elem.Cos(a)
	}
	return elem.Atan(a)
}

// sloped is what holds a number, and what holds its slope by one variable of the beginning.
type sloped struct{ value, slope api.Ival }

// bySlopes counts with both: values come out as plain ones do, bit by bit.
type bySlopes struct{}

func (bySlopes) steady(x api.Ival) sloped { return sloped{x, ival.Point(0)} }

func (bySlopes) valueOf(a sloped) api.Ival { return a.value }

func (bySlopes) isBounded(a sloped) bool { return !hasNoEnd(a.value) && !hasNoEnd(a.slope) }

func (bySlopes) neg(a sloped) sloped { return sloped{ival.Neg(a.value), ival.Neg(a.slope)} }

func (bySlopes) add(a, b sloped) sloped {
	return sloped{ival.Add(a.value, b.value), ival.Add(a.slope, b.slope)}
}

func (bySlopes) sub(a, b sloped) sloped {
	return sloped{ival.Sub(a.value, b.value), ival.Sub(a.slope, b.slope)}
}

func (bySlopes) mul(a, b sloped) sloped {
	return sloped{
		value: ival.Mul(a.value, b.value),
		slope: ival.Add(ival.Mul(a.slope, b.value), ival.Mul(a.value, b.slope)),
	}
}

func (bySlopes) div(a, b sloped) sloped {
	v := ival.Div(a.value, b.value)
	return sloped{v, ival.Div(ival.Sub(a.slope, ival.Mul(v, b.slope)), b.value)}
}

func (bySlopes) function(kind int, a sloped) sloped {
	v := plain{}.function(kind, a.value)
	return sloped{v, slopeOf(kind, v, a)}
}

// slopeOf is that of a function with the value v at a.
func slopeOf(kind int, v api.Ival, a sloped) api.Ival {
	switch kind {
	case api.TSqrt:
		return ival.Div(a.slope, ival.Mul(ival.Point(2), v))
	case api.TExp:
		return ival.Mul(v, a.slope)
	case api.TLog:
		return ival.Div(a.slope, a.value)
	case api.TSin:
		return ival.Mul(elem.Cos(a.value), a.slope)
	case api.TCos:
		return ival.Neg(ival.Mul(elem.Sin(a.value), a.slope))
	}
	return ival.Div(a.slope, ival.Add(ival.Point(1), ival.Sqr(a.value))) // TAtan
}
