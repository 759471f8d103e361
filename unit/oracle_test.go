package unit_test

// What the chapter says in words, gone through in the library's exact numbers, and without leaving anything out that is 0.

import (
	"math"
	"math/big"

	"orrery/api"
	"orrery/parse"
)

// over is what the words below give up with: an error's number.
type over struct{ e api.Errno }

// answerOf is what the work answers, or the error with which it was given up.
func answerOf[T any](work func() T) (answer T, e api.Errno) {
	defer func() {
		if r := recover(); r != nil {
			e = r.(over).e
		}
	}()
	return work(), api.OK
}

// mayBe goes by the words of when a number may be.
func mayBe(a api.Rat) bool {
	if a.D < 1 || a.N == math.MinInt64 {
		return false
	}
	n := new(big.Int).Abs(big.NewInt(a.N))
	return new(big.Int).GCD(nil, nil, n, big.NewInt(a.D)).Cmp(big.NewInt(1)) == 0
}

func dimMayBe(d api.Dim) bool {
	for _, e := range d.E {
		if !mayBe(e) {
			return false
		}
	}
	return true
}

// row is a dimension's exponents, and behind them those of the variables that are unknown, as many as are asked for.
type row []*big.Rat

func rowOf(d api.Dim, vars int) row {
	r := make(row, len(d.E)+vars)
	for i := range r {
		r[i] = new(big.Rat)
		if i < len(d.E) {
			r[i].SetFrac64(d.E[i].N, d.E[i].D)
		}
	}
	return r
}

func (r row) dim() api.Dim {
	var d api.Dim
	for i := range d.E {
		d.E[i] = api.Rat{N: r[i].Num().Int64(), D: r[i].Denom().Int64()}
	}
	return d
}

// isPlain is asked of the dimension alone.
func (r row) isPlain() bool { return r.dim() == plain() }

func roomy(x *big.Rat) *big.Rat {
	if n, d := x.Num(), x.Denom(); !n.IsInt64() || !d.IsInt64() || n.Int64() == math.MinInt64 {
		panic(over{api.ErrOver})
	}
	return x
}

// times is a b^p, number by number; all that is met on the way must have room.
func (a row) times(b row, p *big.Rat) row {
	out := make(row, len(a))
	for i := range a {
		product := roomy(new(big.Rat).Mul(b[i], p))
		out[i] = roomy(new(big.Rat).Add(a[i], product))
	}
	return out
}

func (a row) divided(by *big.Rat) row {
	out := make(row, len(a))
	for i := range a {
		out[i] = roomy(new(big.Rat).Quo(a[i], by))
	}
	return out
}

func (a row) power(p *big.Rat) row { return rowOf(plain(), len(a)-7).times(a, p) }

func wantTimes(a, b api.Dim, p api.Rat) (api.Dim, api.Errno) {
	if !dimMayBe(a) || !dimMayBe(b) || !mayBe(p) {
		return api.Dim{}, api.ErrArg
	}
	return answerOf(func() api.Dim { return rowOf(a, 0).times(rowOf(b, 0), big.NewRat(p.N, p.D)).dim() })
}

// wantOf is P14.3.
func wantOf(t api.Tree, names []string, dims []api.Dim) (api.Dim, api.Errno) {
	if len(names) != len(dims) {
		return api.Dim{}, api.ErrArg
	}
	for _, d := range dims {
		if !dimMayBe(d) {
			return api.Dim{}, api.ErrArg
		}
	}
	var of func(t api.Tree) api.Dim
	ask := func(d api.Dim, e api.Errno) api.Dim {
		if e != api.OK {
			panic(over{e})
		}
		return d
	}
	of = func(t api.Tree) api.Dim {
		kids, ok := map[int]int{20: 0, 21: 0, 22: 2, 23: 2, 24: 1}[t.Kind]
		if !ok || len(t.Kids) != kids {
			panic(over{api.ErrTree})
		}
		switch t.Kind {
		case api.UName:
			for i, name := range names {
				if name == t.Name {
					return dims[i]
				}
			}
			panic(over{api.ErrName})
		case api.UMul, api.UDiv:
			p := map[int]int64{api.UMul: 1, api.UDiv: -1}[t.Kind]
			a := of(t.Kids[0])
			b := of(t.Kids[1])
			return ask(wantTimes(a, b, q(p, 1)))
		case api.UPow:
			return ask(wantTimes(plain(), of(t.Kids[0]), t.Num))
		}
		return plain()
	}
	return answerOf(func() api.Dim { return of(t) })
}

// wantUnits is P14.2.
func wantUnits(file api.Tree) (names []string, dims []api.Dim, e api.Errno) {
	if parse.Right(file) != api.OK {
		return nil, nil, api.ErrTree
	}
	bases := 0
	for _, u := range file.Kids {
		if u.Kind != api.DUnit {
			continue
		}
		for _, name := range names {
			if name == u.Name {
				return nil, nil, api.ErrTwice
			}
		}
		d := plain()
		switch {
		case len(u.Kids) == 1:
			if d, e = wantOf(u.Kids[0], names, dims); e != api.OK {
				return nil, nil, e
			}
		case bases == 7:
			return nil, nil, api.ErrLong
		default:
			d.E[bases] = q(1, 1)
			bases++
		}
		names, dims = append(names, u.Name), append(dims, d)
	}
	return names, dims, api.OK
}
