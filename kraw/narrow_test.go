package kraw_test

import (
	"math"
	"math/rand"
	"testing"

	"orrery/api"
)

// away is how far from each end of x a line's root lies, at least.
const away = 0x1p-10

// narrowEnough is P7.3's width, with the lesser way to read it: 2^-20 times the greater one of 1 and the greatest amount in x.
func narrowEnough(z, x box) bool {
	greatest := 1.0
	for _, v := range x {
		greatest = max(greatest, -v.Lo, v.Hi)
	}
	for _, v := range z {
		if minus(exactly(v.Hi), exactly(v.Lo)).Cmp(exactly(greatest*0x1p-20)) > 0 {
			return false
		}
	}
	return true
}

// askNarrow is P7.3, and P7.2, of a question with just one root.
func askNarrow(t *testing.T, s api.Tape, x, p box, root []number) {
	t.Helper()
	a := askKnown(t, s, x, p, [][]number{root})
	if a.e != api.OK || !narrowEnough(a.box, x) {
		t.Errorf("Solve(%v, %v, %v) = %v: too wide, or no box, though %v is the root", s, x, p, a, root)
	}
}

// isLine is the chapter's word, but for how it is worked out.
func isLine(a [][]float64, b []float64, x box, root []number) bool {
	for i, row := range a {
		others := whole(0)
		for j, v := range row {
			if j != i {
				others = plus(others, amount(exactly(v)))
			}
		}
		d := math.Abs(row[i])
		if d < 0x1p-4 || d > 0x1p4 || plus(others, others).Cmp(exactly(d)) > 0 || math.Abs(b[i]) > 8 {
			return false
		}
		if x[i].Lo < -100 || x[i].Hi > 100 || minus(root[i], exactly(x[i].Lo)).Cmp(exactly(away)) < 0 || minus(exactly(x[i].Hi), root[i]).Cmp(exactly(away)) < 0 {
			return false
		}
	}
	return true
}

// signed is v, or its negative: of 0 no -0.
func signed(r *rand.Rand, v float64) float64 {
	if r.Intn(2) == 0 {
		return v
	}
	return 0 - v
}

// steadyRow has that diagonal; half of it is shared among the others: by few bits, so that sums of a few products are exact.
func steadyRow(r *rand.Rand, n, i int, diagonal float64, share int) []float64 {
	row := make([]float64, n)
	row[i] = diagonal
	half := math.Abs(diagonal) / 2
	switch share {
	case 0: // nothing
	case 1: // all of it to one
		if n > 1 {
			row[(i+1+r.Intn(n-1))%n] = signed(r, half)
		}
	case 2: // a 32nd part to each
		for j := range row {
			if j != i {
				row[j] = signed(r, half/32)
			}
		}
	case 3: // what is left, again and again
		for _, j := range r.Perm(n) {
			if j != i {
				part := math.Floor(r.Float64()*8) / 8 * half
				part = math.Trunc(part*0x1p12) / 0x1p12
				row[j] = signed(r, part)
				half -= part
			}
		}
	}
	return row
}

// knownLine draws a root of few bits, and what A v is there: exactly floats of at most 8.
func knownLine(r *rand.Rand, n, share int, diagonal func() float64) (a [][]float64, b []float64, root []number) {
	reach := 80.0
	for i := range n {
		row := steadyRow(r, n, i, diagonal(), share)
		a = append(a, row)
		reach = min(reach, 5.25/math.Abs(row[i])) // a row's sum is at most 1.5 times its diagonal's part
	}
	for range n {
		root = append(root, exactly(math.Trunc((2*r.Float64()-1)*reach*64)/64))
	}
	for _, v := range applied(a, root) {
		f, exact := v.Float64()
		if !exact {
			panic("too many bits")
		}
		b = append(b, f)
	}
	return a, b, root
}

// boxAround leaves a root at least so much room, at one end or at both just that.
func boxAround(r *rand.Rand, root []number) box {
	var x box
	for _, v := range root {
		at, _ := v.Float64()
		switch r.Intn(5) {
		case 0:
			x = append(x, iv(at-away, at+away))
		case 1:
			x = append(x, iv(at-away, 100))
		case 2:
			x = append(x, iv(-100, at+away))
		case 3:
			x = append(x, iv(-100, 100))
		default:
			x = append(x, iv(at-away-r.Float64(), at+away+r.Float64()))
		}
	}
	return x
}

// TestLines is P7.3: with up to 24 unknowns, up to the bounds of diagonals, of what stands beside them, of b and of x.
func TestLines(t *testing.T) {
	r := chance(79)
	diagonals := []func() float64{
		func() float64 { return signed(r, 0x1p-4) },
		func() float64 { return signed(r, 0x1p4) },
		func() float64 { return signed(r, math.Ldexp(1, 4-8*r.Intn(2))) },
		func() float64 { return signed(r, math.Ldexp(float64(8+r.Intn(8)), r.Intn(8)-7)) },
		func() float64 { return 1 },
	}
	for _, n := range []int{1, 2, 3, 4, 7, 12, api.MaxDim} {
		for _, diagonal := range diagonals {
			for share := range 4 {
				a, b, root := knownLine(r, n, share, diagonal)
				x := boxAround(r, root)
				if !isLine(a, b, x, root) {
					t.Fatalf("%v v = %v on %v is no line", a, b, x)
				}
				askNarrow(t, lineOf(a, b), x, nil, root)
			}
		}
	}
}

// TestLinesOfAnyFloats is P7.3 for floats of all their bits, b up to 8: the root is found exactly.
func TestLinesOfAnyFloats(t *testing.T) {
	r := chance(80)
	lines := 0
	for n := range 400 {
		many := 1 + n%5
		var a [][]float64
		var b []number
		var floats []float64
		for i := range many {
			diagonal := signed(r, min(16, math.Ldexp(1+r.Float64(), r.Intn(8)-4)))
			row := make([]float64, many)
			for j := range row {
				row[j] = diagonal / 2 / float64(many) * (2*r.Float64() - 1)
			}
			row[i] = diagonal
			a = append(a, row)
			floats = append(floats, []float64{8, -8, 16*r.Float64() - 8, least, 0}[r.Intn(5)])
			b = append(b, exactly(floats[i]))
		}
		root := solved(a, b)
		x := boxAround(r, root)
		for i := range x { // the float at the root may lie to either side of it
			x[i] = iv(max(-100, math.Nextafter(x[i].Lo, -inf)), min(100, math.Nextafter(x[i].Hi, inf)))
		}
		if isLine(a, floats, x, root) {
			lines++
			askNarrow(t, lineOf(a, floats), x, nil, root)
		}
	}
	if lines < 250 {
		t.Errorf("only %d lines", lines)
	}
}

// TestLineWays is P7.3 for sums that begin with 0, and products the other way round.
func TestLineWays(t *testing.T) {
	a, b := [][]float64{{4, 1, -1}, {0.5, -2, 0.25}, {0, 8, 16}}, []float64{3, -1.75, 0}
	root := solved(a, []number{exactly(b[0]), exactly(b[1]), exactly(b[2])})
	s, v := variables(3)
	for i, row := range a {
		sum := put(&s, lit(0, 0))
		for j, w := range row {
			sum = put(&s, both(api.TAdd, sum, put(&s, both(api.TMul, v[j], put(&s, lit(w, w))))))
		}
		s.Outs = append(s.Outs, put(&s, both(api.TSub, sum, put(&s, lit(b[i], b[i])))))
	}
	x := box{iv(-100, 100), iv(0, 3), iv(-1, 1)}
	if !isLine(a, b, x, root) {
		t.Fatal("no line")
	}
	askNarrow(t, s, x, nil, root)
	askNarrow(t, s, x, box{}, root)
	askNarrow(t, lineOf(a, b), x, nil, root)
}

// isSquare is the chapter's word: that the root of q lies where it must is asked of squares.
func isSquare(x api.Ival, q float64) bool {
	l, h := exactly(x.Lo), exactly(x.Hi)
	room := times(l, exactly(0x1p-10))
	lower, upper := plus(l, room), minus(h, room)
	return x.Lo >= 0x1p-10 && x.Hi <= 0x1p10 && h.Cmp(times(exactly(1.25), l)) <= 0 &&
		lower.Cmp(upper) <= 0 && times(lower, lower).Cmp(exactly(q)) <= 0 && times(upper, upper).Cmp(exactly(q)) >= 0
}

// askSquare is P7.3, and P7.2: the box holds the root of q.
func askSquare(t *testing.T, x api.Ival, q float64) {
	t.Helper()
	a := ask(t, square(), box{x}, points(q))
	if a.e != api.OK || !rootsLieIn(a.box[0], point(q)) || !narrowEnough(a.box, box{x}) {
		t.Errorf("v v - %v on %v: %v", q, x, a)
	}
}

// edgeSquares are the least and the greatest float that q may be on x; none, if there is no room.
func edgeSquares(x api.Ival) []float64 {
	room := x.Lo * 0x1p-10
	lower, upper := x.Lo+room, x.Hi-room
	var qs []float64
	for _, from := range []struct{ q, to float64 }{{math.Nextafter(lower*lower, 0), inf}, {math.Nextafter(upper*upper, inf), 0}} {
		q := from.q
		for range 8 { // the edge is rounded three times
			if isSquare(x, q) {
				qs = append(qs, q)
				break
			}
			q = math.Nextafter(q, from.to)
		}
	}
	return qs
}

// TestSquares is P7.3: up to the bounds of x, of its width, and of where the root lies.
func TestSquares(t *testing.T) {
	r := chance(81)
	edges := 0
	xs := []api.Ival{iv(0x1p-10, 1.25*0x1p-10), iv(0x1p-10, 0x1p-10*(1+0x1p-9)), iv(0x1p-10, 0x1.01p-10), iv(math.Nextafter(0x1p10/1.25, inf), 0x1p10), iv(1000, 0x1p10), iv(1022, 0x1p10), iv(1, 1.25), iv(0.8, 1), iv(1.75, 2.1875)}
	for range 3000 {
		l := math.Ldexp(1+r.Float64(), r.Intn(20)-10)
		xs = append(xs, iv(l, min(0x1p10, l*(1+r.Float64()/4))))
	}
	for _, x := range xs {
		for _, q := range edgeSquares(x) {
			edges++
			askSquare(t, x, q)
		}
		for range 4 {
			root := x.Lo + r.Float64()*(x.Hi-x.Lo)
			if q := root * root; isSquare(x, q) {
				askSquare(t, x, q)
			}
		}
	}
	if edges < 5000 {
		t.Errorf("only %d squares at an edge", edges)
	}
}

// TestSquareWays is P7.3 with the operations of v v - q in another order, and with v there twice.
func TestSquareWays(t *testing.T) {
	for _, s := range []api.Tape{
		lastOf(2, variable(1), variable(0), both(api.TMul, 1, 1), both(api.TSub, 2, 0)),
		lastOf(2, variable(0), variable(0), both(api.TMul, 0, 1), variable(1), both(api.TSub, 2, 3)),
	} {
		if a := ask(t, s, box{iv(1.25, 1.5)}, points(2)); a.e != api.OK || !rootsLieIn(a.box[0], point(2)) || !narrowEnough(a.box, box{iv(1.25, 1.5)}) {
			t.Errorf("%v: %v", s, a)
		}
	}
}
