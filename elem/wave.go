package elem

import (
	"orrery/api"
	"orrery/ival"
)

// farthest is up to where quarters of a turn are taken off: there are fewer than 2^20 of them.
const farthest = 1 << 20

// Sin holds the sines of all numbers in x.
func Sin(x api.Ival) api.Ival { return wave(x, 0) }

// Cos holds the cosines of all numbers in x.
func Cos(x api.Ival) api.Ival { return wave(x, 1) }

// wave is the sine that runs ahead by some quarters of a turn.
func wave(x api.Ival, ahead int) api.Ival {
	x = counted(x)
	bounds := ival.Make(-1, 1)
	if x == ival.Empty() {
		return x
	}
	if ival.Mag(x) > farthest {
		return bounds
	}
	y := ival.Hull(waveAt(x.Lo, ahead), waveAt(x.Hi, ahead))
	if mayPass(x, 1-ahead) {
		y = ival.Hull(y, ival.Point(1))
	}
	if mayPass(x, 3-ahead) {
		y = ival.Hull(y, ival.Point(-1))
	}
	return ival.Meet(y, bounds)
}

// mayPass tells whether x may hold a number of quarters of a turn that is as phase is, but for whole turns. It is never false of one that is held.
func mayPass(x api.Ival, phase int) bool {
	n := quarters(x)
	first, last := ceiling(n.Lo), floor(n.Hi)
	forward := (phase - first) & 3
	return first+forward <= last
}

// quarters is how many quarters of a turn x is.
func quarters(x api.Ival) api.Ival {
	halfPi := ival.Mul(ival.Point(0.5), Pi())
	return ival.Div(x, halfPi)
}

func waveAt(v float64, ahead int) api.Ival {
	k := near(quarters(ival.Point(v)))
	r := fineHalfPi().takenOff(v, k)
	switch (k + ahead) & 3 {
	case 0:
		return sinNearZero(r)
	case 1:
		return cosNearZero(r)
	case 2:
		return ival.Neg(sinNearZero(r))
	}
	return ival.Neg(cosNearZero(r))
}

func sinNearZero(r api.Ival) api.Ival { return ival.Mul(r, turned(r, 1)) }

func cosNearZero(r api.Ival) api.Ival { return turned(r, 0) }
