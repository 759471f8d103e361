package chain

import (
	"math"
	"math/bits"

	"orrery/api"
	"orrery/ival"
	"orrery/taylor"
)

const (
	// firstStep is how long the first one is to be, in ticks: a sixteenth of a second.
	firstStep = 1 << 16
	// longestStep is the longest that lohner takes.
	longestStep = 1 << 30
	// patience is how many steps are taken behind a try that failed, ahead of one that is as long.
	patience = 4
)

// How great the rest of a step is to be at most, which is what is left of the series: of each component beside what the step moves it by, its amount, and its width.
const (
	// digits are the bits of what it is moved by, for each order: of low orders more would take too many steps.
	digits = 5
	// finest is a part of the amount: rounding leaves not much less.
	finest = 0x1p-48
	// share is a part of the width, for all steps together.
	share = 0x1p-3
	// slack is how many times greater it may be, ahead of another try.
	slack = 16
	// loose is a part of what it is moved by, and of the width that is allowed: so great it may be, if there are too few tries for shorter steps.
	loose = 0x1p-3
	// nought is so little that it does not count.
	nought = 0x1p-1000
)

// How far slopes of the second order may be apart on a set, times the time's square.
const (
	// slight is so little that it does no harm.
	slight = 0x1p-10
	// beside is a part of what those of the first order are apart, times the time: that swells the set anyway.
	beside = 0x1p-4
)

// pace is how long the next step is to be.
type pace struct {
	ticks int64 // a power of 2: by such times numbers are multiplied exactly
	held  int   // so many steps are taken, ahead of longer ones
}

// rest is how many times greater that of a step is than what is wanted, and than what is allowed at all.
type rest struct {
	wanted, allowed float64
}

func (r rest) times(factor float64) rest { return rest{r.wanted * factor, r.allowed * factor} }

// restOf takes the way of a step: the next coefficient on it is what the step counted with.
func (w *walk) restOf(way []api.Ival, ticks int64) rest {
	order := w.control.Order
	coefs, e := taylor.Coefs(w.field, way, order+1)
	if e != api.OK {
		return rest{} // not behind a step
	}
	time := secondsOf(ticks)
	power := powerOf(time, order+1)
	fine := math.Ldexp(1, -digits*(order+1))
	part := share * float64(ticks) / float64(w.until)
	var worst rest
	for i, x := range coefs[order+1] {
		left := ival.Wid(x) * power
		if left < nought {
			continue
		}
		moved := ival.Mag(coefs[1][i]) * time
		wanted := max(fine*moved, finest*ival.Mag(way[i]), part*ival.Wid(w.box[i]))
		allowed := loose * min(moved, w.control.Width)
		worst.wanted = max(worst.wanted, left/wanted)
		worst.allowed = max(worst.allowed, left/allowed)
	}
	return worst
}

func powerOf(v float64, n int) float64 {
	power := 1.0
	for range n {
		power *= v
	}
	return power
}

// isTooCoarse tells whether a step of that rest is to be tried again, in parts. The last try is taken as it is.
func (w *walk) isTooCoarse(r rest, ticks int64) bool {
	return ticks > 1 && w.tries > 0 && r.wanted > slack && !w.isExcused(r, ticks)
}

// isExcused tells whether a rest is to be borne with, for the tries that are left to be enough. If not even the coarsest steps would do, haste is of no use.
func (w *walk) isExcused(r rest, ticks int64) bool {
	fair := w.fair()
	if ticks > fair {
		return false
	}
	for ; ticks < fair; ticks *= 2 {
		r = r.times(1 / w.halved())
	}
	return r.allowed <= 1
}

// fair is how long steps are to be on average, for half of the tries to be enough.
func (w *walk) fair() int64 { return 2 * (w.until - w.at) / int64(w.tries+1) }

// halved is how much of a rest is left of a step that is half as long.
func (w *walk) halved() float64 { return math.Ldexp(1, -w.control.Order-1) }

// refine makes the next try so short that its rest should do.
func (w *walk) refine(s step) {
	w.pace.ticks = s.ticks
	for r := s.rest; w.isTooCoarse(r, w.pace.ticks); r = r.times(w.halved()) {
		w.pace.ticks = halfOf(w.pace.ticks)
	}
}

// shorten makes the next try shorter than one that failed: as short as can be, if none can help.
func (w *walk) shorten(ticks int64) {
	w.pace = pace{ticks: halfOf(ticks), held: patience}
	if w.isLost() {
		w.pace.ticks = 1
	}
}

// hasten makes the next step longer or shorter, by how well one went.
func (w *walk) hasten(s step) {
	doubled := s.rest.times(2 / w.halved()) // on a way that is twice as long the coefficient is wider, too
	switch {
	case s.rest.wanted > 1 && !w.isExcused(s.rest, s.ticks):
		w.pace.ticks = halfOf(s.ticks)
	case w.pace.held > 0:
		w.pace.held--
	case doubled.wanted <= 1 || w.isExcused(doubled, 2*s.ticks):
		w.pace.ticks = min(2*w.pace.ticks, longestStep)
	}
}

// temper makes the next step shorter where the set is so wide that slopes of the second order, and higher ones, would swell it. What they add falls faster than the time; and sets that swell come to nothing, so that too few tries are no excuse.
func (w *walk) temper() {
	if w.box == nil || w.control.Order < 2 {
		return
	}
	_, slopes, e := taylor.Slopes(w.field, w.box, 2)
	if e != api.OK {
		return
	}
	first, second := spread(slopes[1]), spread(slopes[2])
	for w.pace.ticks > 1 {
		time := secondsOf(w.pace.ticks)
		if second*time*time <= max(slight, beside*first*time) {
			return
		}
		w.pace.ticks = halfOf(w.pace.ticks)
	}
}

// spread is the greatest sum of a row's widths.
func spread(m [][]api.Ival) float64 {
	greatest := 0.0
	for _, row := range m {
		sum := 0.0
		for _, x := range row {
			sum += ival.Wid(x)
		}
		greatest = max(greatest, sum)
	}
	return greatest
}

// halfOf is the greatest power of 2 that is at most half; a tick is not parted.
func halfOf(ticks int64) int64 {
	if ticks == 1 {
		return 1
	}
	return 1 << (bits.Len64(uint64(ticks)) - 2)
}
