package rat

import (
	"math/bits"

	"orrery/api"
	"orrery/ival"
	"orrery/ulp"
)

// Hold is the least interval of a.
func Hold(a api.Rat) api.Ival {
	if !Right(a) {
		return ival.Empty()
	}
	p := parts(a)
	return ival.Make(ulp.Round(p, -1), ulp.Round(p, 1))
}

// parts are rounded as a is, to any side: they have 64 bits, the last one of which lies below all that a float keeps, and is set, if something is lost.
func parts(a api.Rat) api.Parts {
	n := amount(a.N)
	if n == 0 {
		return api.Parts{}
	}
	up := bits.LeadingZeros64(n)
	q, rest := wide{hi: n << up}.by(amount(a.D)) // at least 2^127 by less than 2^63: more bits than a word has
	more := bits.LeadingZeros64(q.hi)
	m := q.hi<<more | q.lo>>(wordBits-more)
	if q.lo<<more != 0 || rest != 0 {
		m |= 1
	}
	return api.Parts{Neg: a.N < 0, M: m, E: -up - more}
}
