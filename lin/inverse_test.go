package lin_test

import (
	"math"
	"math/rand"
	"testing"

	"orrery/api"
	"orrery/ival"
	"orrery/lin"
)

// checkInverse is P4.3 for any square matrix that may be, and P4.5; it tells whether an inverse was answered.
func checkInverse(t *testing.T, a floats) bool {
	t.Helper()
	x, _ := heldInverse(t, a)
	return x != nil
}

// heldInverse is what was answered, and what it holds.
func heldInverse(t *testing.T, a floats) (boxes, exact) {
	t.Helper()
	x, e := lin.Inverse(a)
	want := inverseOf(a)
	if e == api.ErrRegular {
		if x != nil {
			t.Errorf("Inverse(%v) = %v beside an error", a, x)
		}
		return nil, want
	}
	if e != api.OK || want == nil {
		t.Fatalf("Inverse(%v) = %v, %d, want one: %v", a, x, e, want != nil)
	}
	for i := range want {
		if len(x) != len(a) || len(x[i]) != len(a) {
			t.Fatalf("Inverse(%v) has another form: %v", a, x)
		}
		for j := range want[i] {
			if !holds(x[i][j], want[i][j]) {
				v, _ := want[i][j].Float64()
				t.Fatalf("Inverse(%v)[%d][%d] = %v does not hold %v", a, i, j, x[i][j], v)
			}
		}
	}
	noMinus0(t, x)
	one, e := lin.Mul(x, lin.Points(a))
	for i := range one {
		for j := range one[i] {
			if e != api.OK || !ival.Has(one[i][j], float64(b2i(i == j))) {
				t.Errorf("Inverse(%v) times it: %v at %d, %d", a, one[i][j], i, j)
			}
		}
	}
	return x, want
}

// checkNarrow holds the widths against 2^bits times the greatest amount in the column of the exact inverse.
func checkNarrow(t *testing.T, a floats, bits int) {
	t.Helper()
	x, want := heldInverse(t, a)
	if x == nil {
		t.Errorf("Inverse(%v): ErrRegular", a)
		return
	}
	for j := range a {
		bound := times(power(bits), greatestAmount(columnOf(want, j)))
		for i := range a {
			if wide := number(x[i][j].Hi); wide.Sub(wide, number(x[i][j].Lo)).Cmp(bound) > 0 {
				t.Errorf("Inverse(%v)[%d][%d] = %v: too wide", a, i, j, x[i][j])
			}
		}
	}
}

// steady draws the diagonal, and shares half of it among the others of the row.
func steady(n int, diagonal func() float64, share func(half float64, i, j, n int) float64) floats {
	m := filled(n, func(i, j int) float64 { return 0 })
	for i := range m {
		m[i][i] = diagonal()
		for j := range m[i] {
			if j != i {
				m[i][j] = share(math.Abs(m[i][i])/2, i, j, n)
			}
		}
	}
	return m
}

// isSteady is the chapter's word, exactly.
func isSteady(a floats) bool {
	for i, row := range exactOf(a) {
		others := number(0)
		for j, v := range row {
			if j != i {
				others.Add(others, v.Abs(v))
			}
		}
		diagonal := row[i].Abs(row[i])
		if diagonal.Cmp(power(-20)) < 0 || diagonal.Cmp(power(20)) > 0 || others.Add(others, others).Cmp(diagonal) > 0 {
			return false
		}
	}
	return true
}

// TestInverseOfSteady is P4.3: up to the edges 2^-20, 2^20 and one half.
func TestInverseOfSteady(t *testing.T) {
	r := chance(44)
	diagonals := []func() float64{
		func() float64 { return signed(r, 0x1p-20) },
		func() float64 { return signed(r, 0x1p20) },
		func() float64 { return signed(r, math.Ldexp(1, 20-40*r.Intn(2))) },
		func() float64 { return signed(r, math.Ldexp(1+r.Float64(), r.Intn(40)-20)) },
		func() float64 { return 3 },
	}
	shares := []func(half float64, i, j, n int) float64{
		func(half float64, i, j, n int) float64 { return signed(r, half/float64(n-1)*r.Float64()) },
		func(half float64, i, j, n int) float64 { return signed(r, half/32) }, // of up to 24 rows: less than half
		func(half float64, i, j, n int) float64 { return -half * float64(b2i(j == (i+1)%n)) },
		func(half float64, i, j, n int) float64 { return half * float64(b2i(j == (i+n-1)%n)) },
		func(half float64, i, j, n int) float64 { // a half of it, a quarter, and so on; the last two are as large
			return signed(r, math.Ldexp(half, -min(j+1-b2i(j > i), n-2)))
		},
		func(half float64, i, j, n int) float64 { return signed(r, least) * float64(b2i(j < 5)) }, // what is exact gets long with more of them
		func(half float64, i, j, n int) float64 { return 0 },
	}
	atHalf := 0
	for _, n := range []int{1, 2, 3, 4, 5, 9, 17, api.MaxDim} {
		for _, diagonal := range diagonals {
			for _, share := range shares {
				a := steady(n, diagonal, share)
				if !isSteady(a) {
					t.Fatalf("%v is not steady", a)
				}
				atHalf += b2i(isAtHalf(a))
				checkNarrow(t, a, -30)
			}
		}
	}
	if atHalf < 30 {
		t.Errorf("only %d matrices at the edge of one half", atHalf)
	}
}

// isAtHalf tells whether nothing can be added to the first row.
func isAtHalf(a floats) bool {
	if len(a) == 1 {
		return false
	}
	sum := 0.0
	for _, v := range a[0][1:] {
		sum += math.Abs(v) // exact, where it counts
	}
	return sum == math.Abs(a[0][0])/2
}

// TestInverseOfHadamard asks for steady matrices whose other numbers have signs in rows at right angles: there what is taken off grows most.
func TestInverseOfHadamard(t *testing.T) {
	sign := func(i, j int) float64 {
		s := 1.0
		for b := i & j; b > 0; b &= b - 1 {
			s = -s
		}
		return s
	}
	for _, n := range []int{2, 5, 9, 17} {
		a := filled(n, func(i, j int) float64 {
			if i == j {
				return sign(i, j)
			}
			return sign(i, j) / 2 / float64(1<<4)
		})
		if !isSteady(a) {
			t.Fatalf("%v is not steady", a)
		}
		checkNarrow(t, a, -30)
	}
}

// TestInverseOfScaled has matrices that are steady but for their scales: these are found as narrowly.
func TestInverseOfScaled(t *testing.T) {
	r := chance(45)
	for _, amount := range []int{30, 200, 450} {
		for _, n := range []int{1, 2, 3, 6, api.MaxDim} {
			a := steady(n, func() float64 { return 1 }, func(half float64, i, j, n int) float64 { return signed(r, half/32) })
			rows, columns := make([]int, n), make([]int, n)
			for i := range n {
				rows[i], columns[i] = r.Intn(2*amount)-amount, r.Intn(2*amount)-amount
			}
			b := filled(n, func(i, j int) float64 { return math.Ldexp(a[i][j], rows[i]+columns[j]) })
			x, e := lin.Inverse(b)
			y, _ := lin.Inverse(a)
			if e != api.OK {
				t.Errorf("Inverse(%v): %d", b, e)
				continue
			}
			for i := range n {
				for j := range n {
					back := iv(math.Ldexp(x[i][j].Lo, columns[i]+rows[j]), math.Ldexp(x[i][j].Hi, columns[i]+rows[j]))
					if ival.Wid(back) > 0x1p-40*ival.Mag(y[j][j]) || ival.Meet(back, y[i][j]) == none {
						t.Errorf("Inverse(%v)[%d][%d] = %v", b, i, j, x[i][j])
					}
				}
			}
			checkInverse(t, b)
		}
	}
}

// TestInverseByChance has all kinds of matrices; of how many an inverse is told, is held against what was seen.
func TestInverseByChance(t *testing.T) {
	r := chance(46)
	for _, c := range []struct {
		name string
		draw func(i, j int) float64
		most bool // nearly all of them have an inverse that is found
	}{
		{"ordinary", func(i, j int) float64 { return r.NormFloat64() }, true},
		{"whole", func(i, j int) float64 { return float64(r.Intn(7) - 3) }, false},
		{"few", func(i, j int) float64 { return float64(r.Intn(3) * r.Intn(2)) }, false},
		{"of all sizes", func(i, j int) float64 { return ofPower(r, 60) }, false},
		{"of all floats", func(i, j int) float64 { return ofPower(r, 1000) }, false},
		{"near MAX", func(i, j int) float64 { return signed(r, greatest*(0.5+r.Float64()/2)) }, true},
		{"near the least", func(i, j int) float64 { return signed(r, least*float64(1+r.Intn(1000000))) }, true},
		{"huge and tiny", func(i, j int) float64 { return signed(r, []float64{greatest, least}[r.Intn(2)]) }, false},
	} {
		found, tried := 0, 0
		for n := 1; n <= 6; n++ {
			for range 40 {
				tried++
				found += b2i(checkInverse(t, filled(n, c.draw)))
			}
		}
		if found == 0 || c.most && found < tried*19/20 {
			t.Errorf("%s: found %d of %d", c.name, found, tried)
		}
	}
	for _, n := range []int{12, api.MaxDim} {
		for range 5 {
			if a := filled(n, func(i, j int) float64 { return r.NormFloat64() }); !checkInverse(t, a) {
				t.Errorf("Inverse(%v): ErrRegular", a)
			}
		}
	}
}

// TestInverseAtTheEdges has inverses that are floats, or none, or hardly.
func TestInverseAtTheEdges(t *testing.T) {
	for _, c := range []struct {
		a    floats
		want boxes
	}{
		{floats{{1}}, boxes{{iv(1, 1)}}},
		{floats{{-4}}, boxes{{iv(-0.25, -0.25)}}},
		{floats{{least}}, boxes{{iv(greatest, inf)}}}, // 2^1074 is beyond MAX
		{floats{{-least}}, boxes{{iv(-inf, -greatest)}}},
		{floats{{0x1p1023}}, boxes{{iv(0x1p-1023, 0x1p-1023)}}},
		{floats{{0, 2}, {-8, 0}}, boxes{{iv(0, 0), iv(-0.125, -0.125)}, {iv(0.5, 0.5), iv(0, 0)}}},
		{floats{{1, 1}, {0, 1}}, boxes{{iv(1, 1), iv(-1, -1)}, {iv(0, 0), iv(1, 1)}}},
	} {
		checkInverse(t, c.a)
		x, e := lin.Inverse(c.a)
		for i := range c.want {
			for j, want := range c.want[i] {
				if e != api.OK || x[i][j] != want {
					t.Errorf("Inverse(%v) = %v, %d, want %v", c.a, x, e, c.want)
				}
			}
		}
	}
	for _, a := range []floats{
		{{greatest}}, {{-greatest}}, {{3}}, {{up(0x1p-1024)}}, {{0x1p-1022}},
		{{greatest, -greatest}, {greatest, greatest}},
		{{least, -least}, {least, least}},
		{{greatest, 1}, {1, least}}, {{greatest, least}, {least, greatest}}, {{least, greatest}, {greatest, least}},
		{{1, 1, 0}, {0, 1, 1}, {1, 0, 1}}, {{1e-20, 1}, {1, 1}}, {{1e-20, 1, 1}, {1, 1e-20, 1}, {1, 1, 1e-20}},
		{{0, 0, 1}, {0, 1, 0}, {1, 0, 0}},
	} {
		if !checkInverse(t, a) {
			t.Errorf("Inverse(%v): ErrRegular", a)
		}
	}
	for _, a := range []floats{ // nearly without one: both answers are right
		{{1, 1}, {1, up(1)}}, {{1, 1}, {1, down(1)}}, {{1, up(1)}, {down(1), 1}},
		{{greatest, greatest}, {greatest, down(greatest)}}, {{least, 2 * least}, {2 * least, 5 * least}},
		{{1e17, 1, 1}, {1, 1e-17, 2}, {1, 2, 1}}, {{3, 2, 1}, {6, 4, up(2)}, {1, 1, 1}},
	} {
		checkInverse(t, a)
	}
}

// TestInverseOfHilbert asks for narrowness beyond what is promised: what is hard takes bits away, but not all.
func TestInverseOfHilbert(t *testing.T) {
	for n := 2; n <= 9; n++ {
		checkNarrow(t, filled(n, func(i, j int) float64 { return 1 / float64(i+j+1) }), -10)
	}
}

// dependent makes the last row a sum of two others, exactly.
func dependent(r *rand.Rand, n int) floats {
	a := filled(n, func(i, j int) float64 { return float64(r.Intn(1<<20) - 1<<19) })
	for j := range n {
		a[n-1][j] = a[0][j] + a[(n-1)/2][j]
	}
	return a
}

// TestInverseWithoutOne is P4.3: always ErrRegular.
func TestInverseWithoutOne(t *testing.T) {
	zero := func(i, j int) float64 { return 0 }
	without := []floats{
		{{0}}, {{minus0}}, {{1, 2}, {2, 4}}, {{0, 0}, {0, 0}}, {{1, 0}, {0, 0}}, {{0, 1}, {0, 2}}, {{1, 2}, {0, minus0}},
		{{greatest, greatest}, {greatest, greatest}}, {{least, least}, {least, least}}, {{least, 2 * least}, {3 * least, 6 * least}},
		{{greatest, least}, {greatest, least}}, {{greatest, greatest}, {least, least}},
		{{0.1, 0.2}, {0.3, 2 * 0.3}}, {{1, 2, 3}, {4, 5, 6}, {7, 8, 9}}, {{1e300, 1e-300}, {2e300, 2 * 1e-300}},
		{{1, 1, 1}, {1, 1, 1}, {0, 0, 1}}, {{1, 2, 0}, {3, 4, 0}, {5, 6, 0}},
		filled(api.MaxDim, zero), filled(api.MaxDim, func(i, j int) float64 { return 1 }),
		filled(api.MaxDim, func(i, j int) float64 { return float64(i + j) }),
	}
	r := chance(47)
	for _, n := range []int{2, 3, 4, 8, 16, api.MaxDim} {
		for range 10 {
			a := dependent(r, n)
			scale := math.Ldexp(1, r.Intn(1800)-900)
			without = append(without, a, transposed(a), filled(n, func(i, j int) float64 { return a[i][j] * scale }))
		}
	}
	for _, a := range without {
		if inverseOf(a) != nil {
			t.Fatalf("%v has an inverse", a)
		}
		if x, e := lin.Inverse(a); x != nil || e != api.ErrRegular {
			t.Errorf("Inverse(%v) = %v, %d, want ErrRegular", a, x, e)
		}
	}
}

func TestInverseRefuses(t *testing.T) {
	for _, a := range append(wrongFloats(), notSquare()...) {
		if x, e := lin.Inverse(a); x != nil || e != api.ErrArg {
			t.Errorf("Inverse(%v) = %v, %d, want ErrArg", a, x, e)
		}
	}
}

func TestInverseInOwnMemory(t *testing.T) {
	x, _ := lin.Inverse(floats{{2, 1, 0}, {1, 2, 1}, {0, 1, 2}})
	inOwnMemory(t, x, iv(7, 7))
}
