package lohner

import (
	"slices"

	"orrery/api"
	"orrery/ival"
	"orrery/picard"
	"orrery/tape"
	"orrery/taylor"
)

// longest is the longest time of a step.
const longest = 1 << 10

// Step goes on with a set for a time: the set then, and a box of all values until then.
//
// A solution that begins at v comes to T(v) + d, where T is Taylor's series up to the order, and d what is left of it: the next coefficient, anywhere on the way, times the time's power. And T(v) is T(C) + S (v - C) with some S in J, the slopes of T at all that lies between C and v. With v = C + A r, r in R, it comes to T(C) + d + S A r.
func Step(t api.Tape, s api.Set, time float64, order int) (api.Set, []api.Ival, api.Errno) {
	if e := refused(t, s, time, order); e != api.OK {
		return api.Set{}, nil, e
	}
	begin, e := Box(s)
	if e != api.OK {
		return api.Set{}, nil, e
	}
	way, e := picard.Bound(t, begin, time)
	if e != api.OK {
		return api.Set{}, nil, e
	}
	reached, e := middleComesTo(t, s.C, way, time, order)
	if e != api.OK {
		return api.Set{}, nil, e
	}
	slopes, e := slopesOf(t, withMiddle(begin, s.C), time, order)
	if e != api.OK {
		return api.Set{}, nil, e
	}
	next := copied(s)
	if e := turn(next, slopes, centre(next.C, reached)); e != api.OK {
		return api.Set{}, nil, e
	}
	return next, way, api.OK
}

// refused tells why no step can be begun at all, if so.
func refused(t api.Tape, s api.Set, time float64, order int) api.Errno {
	if e := tape.Right(t); e != api.OK {
		return e
	}
	isField := len(t.Outs) == t.Vars         // a set that may be has as many components as a field may have
	timeMayBe := 0 < time && time <= longest // NAN is neither
	orderMayBe := 1 <= order && order < api.MaxOrder
	if !isField || !Right(s) || len(s.C) != t.Vars || !timeMayBe || !orderMayBe {
		return api.ErrArg
	}
	return api.OK
}

// middleComesTo is where the series brings c, and what is left of the series for solutions on their way.
func middleComesTo(t api.Tape, c []float64, way []api.Ival, time float64, order int) ([]api.Ival, api.Errno) {
	coefs, e := taylor.Coefs(t, pointsOf(c), order)
	if e != api.OK {
		return nil, e
	}
	beyond, e := taylor.Coefs(t, way, order+1)
	if e != api.OK {
		return nil, e
	}
	return summed(append(coefs, beyond[order+1]), time), api.OK
}

// slopesOf are those of the series, by all variables, at all beginnings in x.
func slopesOf(t api.Tape, x []api.Ival, time float64, order int) ([][]api.Ival, api.Errno) {
	_, slopes, e := taylor.Slopes(t, x, order)
	if e != api.OK {
		return nil, e
	}
	rows := make([][]api.Ival, len(x))
	for i := range rows {
		var series [][]api.Ival
		for _, coef := range slopes {
			series = append(series, coef[i])
		}
		rows[i] = summed(series, time)
	}
	return rows, api.OK
}

// summed is a series at a time, component by component; from its end on, so that no power of the time is needed.
func summed(series [][]api.Ival, time float64) []api.Ival {
	sum := make([]api.Ival, len(series[0]))
	for _, coef := range slices.Backward(series) {
		for i := range sum {
			sum[i] = ival.Add(coef[i], ival.Mul(ival.Point(time), sum[i]))
		}
	}
	return sum
}

// withMiddle is a box that holds c, too, and all between.
func withMiddle(box []api.Ival, c []float64) []api.Ival {
	both := make([]api.Ival, len(box))
	for i := range box {
		both[i] = ival.Hull(box[i], ival.Point(c[i]))
	}
	return both
}

func pointsOf(c []float64) []api.Ival {
	points := make([]api.Ival, len(c))
	for i, v := range c {
		points[i] = ival.Point(v)
	}
	return points
}
