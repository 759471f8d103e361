package kraw

import (
	"slices"

	"orrery/api"
	"orrery/ival"
	"orrery/lin"
	"orrery/tape"
)

// question is what is asked of boxes: for all numbers of the parameters.
type question struct {
	tape       api.Tape
	parameters []api.Ival
}

// values are those of the tape on a box.
func (q question) values(box []api.Ival) ([]api.Ival, api.Errno) {
	return tape.Eval(q.tape, slices.Concat(box, q.parameters))
}

// slopes are the values, too, and how these go with the unknowns alone.
func (q question) slopes(box []api.Ival) ([]api.Ival, [][]api.Ival, api.Errno) {
	values, rows, e := tape.Grad(q.tape, slices.Concat(box, q.parameters))
	for i := range rows {
		rows[i] = rows[i][:len(box)]
	}
	return values, rows, e
}

// round keeps of a box what holds all its roots, and tells whether they are just one: ErrNone, if there is none; another error, if nothing can be told.
//
// A part of a box may have an error though the whole has none: functions beyond roots may be told wider on less.
func (q question) round(box []api.Ival) (kept []api.Ival, onlyOne bool, e api.Errno) {
	values, slopes, e := q.slopes(box)
	switch {
	case e != api.OK:
		return nil, false, e
	case slices.ContainsFunc(values, isAwayFromZero):
		return nil, false, api.ErrNone
	case !slices.ContainsFunc(box, isWide) && !slices.ContainsFunc(values, isWide):
		return slices.Clone(box), true, api.OK // one vector, which is a root, whatever its slopes are
	}
	middle := middleOf(box)
	values, e = q.values(middle)
	if e != api.OK {
		return nil, false, e
	}
	k, e := krawczyk(box, middle, values, slopes)
	if e != api.OK {
		return nil, false, e
	}
	kept = each(ival.Meet, k, box)
	if slices.Contains(kept, ival.Empty()) {
		return nil, false, api.ErrNone
	}
	return kept, liesWithRoom(k, box), api.OK
}

func isAwayFromZero(x api.Ival) bool { return !ival.Has(x, 0) }

func isWide(x api.Ival) bool { return x.Lo < x.Hi }

func middleOf(box []api.Ival) []api.Ival {
	middle := make([]api.Ival, len(box))
	for i, x := range box {
		middle[i] = ival.Point(ival.Mid(x))
	}
	return middle
}

// krawczyk is K = c - Y t(c) + (1 - Y J) (box - c), with the values t(c) in the middle c, the slopes J on the box, and floats Y that are nearly the inverse of J's middle.
//
// From c to any v in the box, t goes by some S (v - c), S a matrix in J: so v - Y t(v) is c - Y t(c) + (1 - Y S) (v - c), and lies in K. Of a root that is v itself.
func krawczyk(box, c, values []api.Ival, slopes [][]api.Ival) ([]api.Ival, api.Errno) {
	inverse, e := lin.Inverse(middlesOf(slopes))
	if e != api.OK {
		return nil, e
	}
	y := lin.Points(middlesOf(inverse))
	step, _ := lin.Apply(y, values) // no error can come: all of it has one form, and may be
	product, _ := lin.Mul(y, slopes)
	rest, _ := lin.Apply(oneLess(product), each(ival.Sub, box, c))
	return each(ival.Add, each(ival.Sub, c, step), rest), api.OK
}

// liesWithRoom tells whether K lies in the box, with room at all ends: then the box has just one root, whatever the parameters are.
//
// For v - Y t(v) brings the box into itself, so there is a v that stays where it is (Brouwer): Y t(v) is 0. With w the widths of the box, and M the greatest amounts in 1 - Y J, K is nowhere narrower than M w: so M w is below w. Hence no d but 0 is (1 - Y S) d, S in J: where the amount of d is greatest beside w, it would be less than itself. So Y S, and with it Y, is regular, and v is a root; and of two roots v and v + d, d would be such a one.
func liesWithRoom(k, box []api.Ival) bool {
	for i := range box {
		if !ival.Strict(k[i], box[i]) {
			return false
		}
	}
	return true
}

func middlesOf(m [][]api.Ival) [][]float64 {
	middles := make([][]float64, len(m))
	for i, row := range m {
		for _, x := range row {
			middles[i] = append(middles[i], ival.Mid(x))
		}
	}
	return middles
}

// oneLess is One less a square matrix.
func oneLess(m [][]api.Ival) [][]api.Ival {
	rest := lin.One(len(m))
	for i := range rest {
		rest[i] = each(ival.Sub, rest[i], m[i])
	}
	return rest
}

// each is what comes of two lists of one length, component by component.
func each(do func(a, b api.Ival) api.Ival, a, b []api.Ival) []api.Ival {
	made := make([]api.Ival, len(a))
	for i := range made {
		made[i] = do(a[i], b[i])
	}
	return made
}
