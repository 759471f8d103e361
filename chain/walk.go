package chain

import (
	"iter"

	"orrery/api"
	"orrery/ival"
	"orrery/lohner"
	"orrery/taylor"
)

// walk is all solutions, on their way.
type walk struct {
	field   api.Tape
	control api.Control
	until   int64
	at      int64      // the time that is reached
	set     api.Set    // where they are then
	box     []api.Ival // that of the set; none, if it has no end
	tries   int        // how many more may be made
	pace    pace
	why     api.Errno // why there are no more pieces, ahead of until
}

// step is what was told of one.
type step struct {
	ticks         int64
	set           api.Set
	box, way, end []api.Ival
	rest          rest
}

// begun takes what is not refused.
func begun(t api.Tape, x []api.Ival, until int64, c api.Control) *walk {
	set, _ := lohner.New(x) // no error can come of bounded intervals
	box, _ := lohner.Box(set)
	return &walk{field: t, control: c, until: until, set: set, box: box, tries: c.Steps, pace: pace{ticks: firstStep}}
}

// pieces are made until the time is reached, or no more can be told.
func (w *walk) pieces() iter.Seq[api.Seg] {
	return func(yield func(api.Seg) bool) {
		for w.at < w.until && w.why == api.OK {
			piece, isTold := w.next()
			if isTold && !yield(piece) {
				return
			}
		}
	}
}

// next makes tries until one tells a piece, or it is plain that none will.
func (w *walk) next() (api.Seg, bool) {
	w.temper()
	for w.tries > 0 {
		w.tries--
		ticks := min(w.pace.ticks, w.until-w.at)
		s, e := w.try(ticks)
		switch {
		case e == api.OK && !w.isTooCoarse(s.rest, ticks):
			return w.goOn(s), true
		case e == api.OK:
			w.refine(s)
		case ticks == 1:
			w.why = e
			return api.Seg{}, false
		default:
			w.shorten(ticks)
		}
	}
	w.why = api.ErrFuel
	return api.Seg{}, false
}

// try asks for a step. A set that is too wide ends a chain, which must be ahead of until then: so a step up to until that makes one is not told, and shorter ones are to tell how far it goes.
func (w *walk) try(ticks int64) (step, api.Errno) {
	set, way, e := lohner.Step(w.field, w.set, secondsOf(ticks), w.control.Order)
	if e != api.OK {
		return step{}, e
	}
	box, e := lohner.Box(set)
	if e != api.OK {
		return step{}, e
	}
	end := make([]api.Ival, len(box))
	for i := range end {
		end[i] = ival.Meet(box[i], way[i]) // solutions come to what both hold
	}
	if w.at+ticks == w.until && isWider(end, w.control.Width) {
		return step{}, api.ErrWide
	}
	return step{ticks, set, box, way, end, w.restOf(way, ticks)}, api.OK
}

// goOn takes a step.
func (w *walk) goOn(s step) api.Seg {
	piece := api.Seg{From: w.at, To: w.at + s.ticks, All: s.way, End: s.end}
	w.at, w.set, w.box = piece.To, s.set, s.box
	if isWider(s.end, w.control.Width) {
		w.why = api.ErrWide
	}
	w.hasten(s)
	return piece
}

// isLost tells whether the series can't be told even where solutions are: so it can't on their way, which has all of that.
func (w *walk) isLost() bool {
	if w.box == nil {
		return true
	}
	_, e := taylor.Coefs(w.field, w.box, w.control.Order+1)
	return e != api.OK
}

// secondsOf is exact.
func secondsOf(ticks int64) float64 { return float64(ticks) / api.Ticks }
