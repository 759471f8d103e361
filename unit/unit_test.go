package unit_test

import (
	"testing"

	"orrery/api"
	"orrery/unit"
)

func TestPlain(t *testing.T) {
	if d := unit.Plain(); d != plain() {
		t.Error(d)
	}
	for _, e := range unit.Plain().E {
		if e != q(0, 1) {
			t.Error(e)
		}
	}
}

func TestRight(t *testing.T) {
	for place := range 7 {
		for _, e := range edges() {
			if !unit.Right(at(place, e)) {
				t.Errorf("%v at %d", e, place)
			}
		}
	}
	for _, d := range wrongDims() {
		if unit.Right(d) {
			t.Errorf("%v is right", d)
		}
	}
	if !unit.Right(dim(1, 2, 3, 4, -5, 6, 7)) {
		t.Error("one with all exponents is not right")
	}
}

func TestTimesByHand(t *testing.T) {
	m, s, kg := dim(1), dim(0, 1), dim(0, 0, 1)
	for _, c := range []struct {
		a, b api.Dim
		p    api.Rat
		want answer
	}{
		{m, s, q(1, 1), is(dim(1, 1))},
		{m, s, q(-2, 1), is(dim(1, -2))},
		{m, m, q(-1, 1), is(plain())},
		{plain(), kg, q(1, 2), is(at(2, q(1, 2)))},
		{at(2, q(1, 3)), kg, q(1, 2), is(at(2, q(5, 6)))},
		{m, s, q(0, 1), is(m)},
		{m, plain(), q(top, 1), is(m)},
		{plain(), dim(1, 2, 3, 4, 5, 6, 7), q(-1, 1), is(dim(-1, -2, -3, -4, -5, -6, -7))},
		{plain(), m, q(-top, 1), is(dim(-top))},
		{dim(top - 1), m, q(1, 1), is(dim(top))},
		{dim(top), m, q(1, 1), failed(api.ErrOver)},
		{dim(-top), m, q(-1, 1), failed(api.ErrOver)},         // -2^63
		{dim(-top), dim(2), q(1<<62, 1), failed(api.ErrOver)}, // the product has no room, though the sum has
		{dim(0, 0, 0, 0, 0, 0, top), dim(0, 0, 0, 0, 0, 0, 1), q(1, 1), failed(api.ErrOver)},
		{plain(), at(6, q(1, 1<<62)), q(1, 2), failed(api.ErrOver)},
		{at(3, q(1, 1<<62)), at(3, q(1, 3)), q(1, 1), failed(api.ErrOver)},
		{m, s, q(2, 2), failed(api.ErrArg)},
		{m, s, api.Rat{}, failed(api.ErrArg)},
		{api.Dim{}, s, q(1, 1), failed(api.ErrArg)},
		{m, api.Dim{}, q(0, 1), failed(api.ErrArg)},
	} {
		check(t, answered(unit.Times(c.a, c.b, c.p)), c.want, c.a, c.b, c.p)
		check(t, answered(wantTimes(c.a, c.b, c.p)), c.want, "the oracle", c.a, c.b, c.p)
	}
}

// What may not be comes ahead of what has no room.
func TestTimesWrong(t *testing.T) {
	full := dim(top, top, top, top, top, top, top)
	for _, d := range wrongDims() {
		for _, p := range []api.Rat{q(0, 1), q(1, 1), q(top, 1), q(2, 2)} {
			check(t, answered(unit.Times(d, full, p)), failed(api.ErrArg), d, full, p)
			check(t, answered(unit.Times(full, d, p)), failed(api.ErrArg), full, d, p)
			check(t, answered(unit.Times(d, d, p)), failed(api.ErrArg), d, d, p)
		}
	}
	for place := range 7 { // also of an exponent behind those that have no room
		d := full
		d.E[place] = q(2, 2)
		check(t, answered(unit.Times(full, d, q(1, 1))), failed(api.ErrArg), d)
		check(t, answered(unit.Times(d, full, q(1, 1))), failed(api.ErrArg), d)
	}
	for _, p := range wrong() {
		check(t, answered(unit.Times(full, full, p)), failed(api.ErrArg), p)
		check(t, answered(unit.Times(plain(), plain(), p)), failed(api.ErrArg), p)
	}
}

func TestTimesEdges(t *testing.T) {
	for place := range 7 {
		for i, a := range edges() {
			for _, b := range edges() {
				p := edges()[(i+place*8)%len(edges())]
				for _, p := range []api.Rat{p, q(1, 1), q(-1, 1), q(1, 2)} {
					x, y := at(place, a), at(place, b)
					check(t, answered(unit.Times(x, y, p)), answered(wantTimes(x, y, p)), x, y, p)
				}
			}
		}
	}
}

// TestTimesByChance is P14.1, and P14.5's last sentence.
func TestTimesByChance(t *testing.T) {
	d := draw(1)
	undone := 0
	for range 20000 {
		a, b, p := d.dim(), d.dim(), d.exponent()
		if d.Intn(2) == 0 {
			a, b, p = d.wildDim(), d.wildDim(), pick(d, append(edges(), d.exponent(), q(1, 1))...)
		}
		got, e := unit.Times(a, b, p)
		check(t, answered(got, e), answered(wantTimes(a, b, p)), a, b, p)
		if e == api.OK {
			undone++
			check(t, answered(unit.Times(got, b, q(-p.N, p.D))), is(a), "undone", a, b, p)
		}
	}
	if undone < 8000 || undone > 18000 {
		t.Error(undone)
	}
}
