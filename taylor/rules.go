package taylor

import (
	"orrery/api"
	"orrery/ival"
)

// seriesBeside is how many series an operation is made of, beside its own and its operands'.
func seriesBeside(o api.Op) int {
	switch o.Kind {
	case api.TPow:
		return max(o.N, -o.N, 1) - 1 // the first power is the operand itself
	case api.TSin, api.TCos, api.TAtan:
		return 1
	}
	return 0
}

// coefficient is that of the order k of an operation, by the rule of its kind.
func (w *work[T]) coefficient(k int, o api.Op, a, b []T, v *terms[T]) T {
	switch o.Kind {
	case api.TConst:
		return w.constant(k, o.Lit)
	case api.TVar:
		return w.variables[k][o.N]
	case api.TAdd:
		return w.add(a[k], b[k])
	case api.TSub:
		return w.sub(a[k], b[k])
	case api.TMul:
		return w.product(k, a, b)
	case api.TDiv:
		return w.quotient(k, a[k], b, v.own)
	case api.TNeg:
		return w.neg(a[k])
	case api.TPow:
		return w.power(k, o.N, a, v)
	case api.TSqrt:
		return w.root(k, a, v.own)
	case api.TExp:
		return w.exponential(k, a, v.own)
	case api.TLog:
		return w.logarithm(k, a, v.own)
	case api.TSin:
		return w.sine(k, a, v)
	case api.TCos:
		return w.cosine(k, a, v)
	}
	return w.arc(k, a, v)
}

func (w *work[T]) constant(k int, x api.Ival) T {
	if k == 0 {
		return w.steady(x)
	}
	return w.whole(0)
}

// sum goes from the first number to the last one, both of them with it.
func (w *work[T]) sum(first, last int, term func(i int) T) T {
	total := w.whole(0)
	for i := first; i <= last; i++ {
		total = w.add(total, term(i))
	}
	return total
}

func (w *work[T]) product(k int, a, b []T) T {
	return w.sum(0, k, func(i int) T { return w.mul(a[i], b[k-i]) })
}

// quotient is v's coefficient, where b times v has the coefficient c.
func (w *work[T]) quotient(k int, c T, b, v []T) T {
	known := w.sum(1, k, func(i int) T { return w.mul(b[i], v[k-i]) })
	return w.div(w.sub(c, known), b[0])
}

// power goes through all powers up to the amount of n.
func (w *work[T]) power(k, n int, a []T, v *terms[T]) T {
	one := w.constant(k, ival.Point(1))
	if n == 0 {
		return one
	}
	highest := a
	for i, ahead := range v.beside {
		v.beside[i] = append(ahead, w.product(k, highest, a))
		highest = v.beside[i]
	}
	if n < 0 {
		return w.quotient(k, one, highest, v.own)
	}
	return highest[k]
}

func (w *work[T]) root(k int, a, v []T) T {
	if k == 0 {
		return w.function(api.TSqrt, a[0])
	}
	known := w.sum(1, k-1, func(i int) T { return w.mul(v[i], v[k-i]) })
	return w.div(w.sub(a[k], known), w.mul(w.whole(2), v[0]))
}

// grownTimes is the coefficient of what grows as fast as a does, times b: all that makes it up, or what does up to a last one of a's.
func (w *work[T]) grownTimes(k, last int, a, b []T) T {
	total := w.sum(1, last, func(i int) T { return w.mul(w.mul(w.whole(i), a[i]), b[k-i]) })
	return w.div(total, w.whole(k))
}

func (w *work[T]) exponential(k int, a, v []T) T {
	if k == 0 {
		return w.function(api.TExp, a[0])
	}
	return w.grownTimes(k, k, a, v)
}

func (w *work[T]) logarithm(k int, a, v []T) T {
	if k == 0 {
		return w.function(api.TLog, a[0])
	}
	return w.grownBy(k, a, a, v)
}

// grownBy is v's coefficient, where v grows as fast as a does, divided by u.
func (w *work[T]) grownBy(k int, a, u, v []T) T {
	known := w.grownTimes(k, k-1, v, u)
	return w.div(w.sub(a[k], known), u[0])
}

// waves are sine's and cosine's coefficients: each goes on by the other's.
func (w *work[T]) waves(k int, a, s, c []T) (T, T) {
	if k == 0 {
		return w.function(api.TSin, a[0]), w.function(api.TCos, a[0])
	}
	return w.grownTimes(k, k, a, c), w.neg(w.grownTimes(k, k, a, s))
}

func (w *work[T]) sine(k int, a []T, v *terms[T]) T {
	s, c := w.waves(k, a, v.own, v.beside[0])
	v.beside[0] = append(v.beside[0], c)
	return s
}

func (w *work[T]) cosine(k int, a []T, v *terms[T]) T {
	s, c := w.waves(k, a, v.beside[0], v.own)
	v.beside[0] = append(v.beside[0], s)
	return c
}

// arc has the divisor 1 + a a beside it.
func (w *work[T]) arc(k int, a []T, v *terms[T]) T {
	divisor := w.add(w.constant(k, ival.Point(1)), w.product(k, a, a))
	v.beside[0] = append(v.beside[0], divisor)
	if k == 0 {
		return w.function(api.TAtan, a[0])
	}
	return w.grownBy(k, a, v.beside[0], v.own)
}
