package lohner

import (
	"orrery/api"
	"orrery/ival"
	"orrery/lin"
)

// copied is a set in memory of its own, so that its parts can be worked on where they lie.
func copied(s api.Set) api.Set {
	c := api.Set{C: make([]float64, len(s.C)), A: make([][]float64, len(s.A)), R: make([]api.Ival, len(s.R))}
	copy(c.C, s.C)
	copy(c.R, s.R)
	for i, row := range s.A {
		c.A[i] = make([]float64, len(row))
		copy(c.A[i], row)
	}
	return c
}

// turn lays a new frame under a set, which then holds all rest + S A r, S in slopes and r in R; its middle is left.
//
// With Q the new frame, and P its inverse, that is Q (P rest + P S A r).
func turn(s api.Set, slopes [][]api.Ival, rest []api.Ival) api.Errno {
	edges, _ := lin.Mul(slopes, lin.Points(s.A)) // no error can come: all of it has one form, and may be
	frame, _ := lin.Frame(weighed(middlesOf(edges), s.R))
	inverse, e := lin.Inverse(frame)
	if e != api.OK {
		return e
	}
	seen, _ := lin.Mul(inverse, edges)
	turned, _ := lin.Apply(seen, s.R)
	aside, _ := lin.Apply(inverse, rest)
	for i := range s.R {
		copy(s.A[i], frame[i])
		s.R[i] = ival.Add(turned[i], aside[i])
	}
	if _, e := Box(s); e != api.OK {
		return api.ErrWide // whether R has no end, or the set's box
	}
	return api.OK
}

// weighed are edges as long as R makes them, beside its widest one: the frame is to follow the longest.
//
// Where R has no width, no edge has a length: what is aside then stays in its own components, as the frame of nothing does not turn.
func weighed(edges [][]float64, r []api.Ival) [][]float64 {
	widest := 0.0
	for _, x := range r {
		widest = max(widest, radius(x))
	}
	for _, row := range edges {
		for j := range row {
			row[j] *= weight(r[j], widest)
		}
	}
	return edges
}

func weight(x api.Ival, widest float64) float64 {
	if widest == 0 {
		return 0
	}
	return radius(x) / widest
}

// radius has room wherever x is bounded, which its width has not.
func radius(x api.Ival) float64 { return ival.Mag(ival.Sub(x, ival.Point(ival.Mid(x)))) }
