package picard

import (
	"slices"

	"orrery/api"
	"orrery/ival"
	"orrery/tape"
)

const (
	// rounds are how often a box is let grow: one for each variable that only another sets going, and some for what is drawn out ever less.
	rounds = 48
	// share is how much longer the time is, for which a box is let grow: what is still missing then falls below it.
	share = 1.0 / 16
	// narrowings are how often a box that bounds is made smaller.
	narrowings = 8
)

// question is a field, where its solutions begin, and how long they are to be held.
type question struct {
	field api.Tape
	begin []api.Ival
	time  float64
}

// bounding is a box that bounds, and where its rates bring the beginning: within it. Without a box it stands for none.
type bounding struct {
	box, reached []api.Ival
}

// try may better a box that bounds, or find a first one; what it can't better, it leaves.
type try func(best bounding) bounding

// atOnce is a box for no time at all.
func (q question) atOnce() ([]api.Ival, api.Errno) {
	if _, e := tape.Eval(q.field, q.begin); e != api.OK {
		return nil, api.ErrBound
	}
	return slices.Clone(q.begin), api.OK
}

// search goes through all tries. The wide box comes first, so that, if it bounds, nothing outside of it is told.
func (q question) search() ([]api.Ival, api.Errno) {
	tries := []try{q.widely(), q.growing()}
	for range narrowings {
		tries = append(tries, q.narrowing())
	}
	var best bounding
	for _, better := range tries {
		best = better(best)
	}
	if best.box == nil || slices.ContainsFunc(best.box, hasNoEnd) {
		return nil, api.ErrBound
	}
	return best.box, api.OK
}

// widely tries the wide box.
func (q question) widely() try {
	return func(best bounding) bounding {
		found, _ := q.tried(wideBox(q.begin))
		return smaller(found, best)
	}
}

// growing tries boxes from x on, each drawn out to where the rates on it go in a little more than the time.
func (q question) growing() try {
	return func(best bounding) bounding {
		box := slices.Clone(q.begin)
		for range rounds {
			found, rates := q.tried(box)
			if found.box != nil {
				return smaller(found, best)
			}
			if rates == nil {
				break
			}
			box = hull(box, q.reach(rates, (1+share)*q.time))
		}
		return best
	}
}

// narrowing tries what the rates on a box reach: most often that bounds as well.
func (q question) narrowing() try {
	return func(best bounding) bounding {
		if slices.Equal(best.box, best.reached) {
			return best
		}
		found, _ := q.tried(best.reached)
		return smaller(found, best)
	}
}

// tried is a box, if it bounds, and the rates on it, if it has any.
func (q question) tried(box []api.Ival) (bounding, []api.Ival) {
	rates, e := tape.Eval(q.field, box)
	if e != api.OK {
		return bounding{}, nil
	}
	reached := q.reach(rates, q.time)
	if !allInside(reached, box) {
		return bounding{}, rates
	}
	return bounding{box, reached}, rates
}

// reach is where rates bring the beginning within a time; the beginning lies in it, as it is there ahead of all rates.
func (q question) reach(rates []api.Ival, time float64) []api.Ival {
	within := ival.Make(0, time)
	reached := make([]api.Ival, len(rates))
	for i, rate := range rates {
		reached[i] = ival.Add(q.begin[i], ival.Mul(within, rate))
	}
	return reached
}

// smaller is what was found, if there is something, and it lies in the best that was there.
func smaller(found, best bounding) bounding {
	if found.box == nil || best.box != nil && !allInside(found.box, best.box) {
		return best
	}
	return found
}

// wideBox is the document's.
func wideBox(x []api.Ival) []api.Ival {
	wide := make([]api.Ival, len(x))
	for i, v := range x {
		amount := ival.Add(ival.Point(1), ival.Point(ival.Mag(v)))
		room := ival.Mul(ival.Point(0x1p-4), amount).Hi
		wide[i] = ival.Hull(v, ival.Add(v, ival.Make(-room, room)))
	}
	return wide
}

func hull(x, y []api.Ival) []api.Ival {
	both := make([]api.Ival, len(x))
	for i := range x {
		both[i] = ival.Hull(x[i], y[i])
	}
	return both
}

// allInside takes boxes of as many components.
func allInside(x, y []api.Ival) bool {
	for i := range x {
		if !ival.Inside(x[i], y[i]) {
			return false
		}
	}
	return true
}
