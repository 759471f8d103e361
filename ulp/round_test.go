package ulp_test

import (
	"math"
	"math/rand"
	"testing"

	"orrery/api"
	"orrery/ulp"
)

// checkRound holds Round of p against down, near and up, for each dir.
func checkRound(t *testing.T, p api.Parts, want [3]float64) {
	t.Helper()
	for _, dir := range allDirs {
		if got := ulp.Round(p, dir); !same(got, want[column(dir)]) {
			t.Errorf("Round(%v, %d) = %g, want %g", p, dir, got, want[column(dir)])
		}
	}
}

// mirrored is what the negative of a number is rounded to.
func mirrored(w [3]float64) [3]float64 {
	return [3]float64{withoutSign(-w[2]), withoutSign(-w[1]), withoutSign(-w[0])}
}

func TestRoundEdges(t *testing.T) {
	const all = math.MaxUint64
	one := 1 + powerOf2(-52)
	zero := [3]float64{0, 0, 0}
	tiny := [3]float64{0, 0, least}
	huge := [3]float64{greatest, inf, inf}
	for _, c := range []struct {
		m    uint64
		e    int
		want [3]float64
	}{
		{0, 0, zero}, {0, math.MaxInt, zero}, {0, math.MinInt, zero}, {0, 5000, zero}, {0, -5000, zero},
		{1, 0, [3]float64{1, 1, 1}}, {1 << 63, -63, [3]float64{1, 1, 1}}, {3, -1, [3]float64{1.5, 1.5, 1.5}},
		// 53 bits and more: all is kept, less than half is lost, just half of an even and of an odd one, more than half.
		{1 << 53, -53, [3]float64{1, 1, 1}},
		{1<<53 + 1, -53, [3]float64{1, 1, one}},
		{1<<53 + 3, -53, [3]float64{one, one + powerOf2(-52), one + powerOf2(-52)}},
		{1<<54 + 1, -54, [3]float64{1, 1, one}},
		{1<<54 + 3, -54, [3]float64{1, one, one}},
		{1<<63 + 1, -63, [3]float64{1, 1, one}},
		{1<<63 + 1<<10, -63, [3]float64{1, 1, one}},
		{1<<63 + 1<<10 - 1, -63, [3]float64{1, 1, one}},
		{1<<63 + 1<<10 + 1, -63, [3]float64{1, one, one}},
		{1<<63 + 1<<11 + 1<<10, -63, [3]float64{one, one + powerOf2(-52), one + powerOf2(-52)}},
		{all, -63, [3]float64{2 - powerOf2(-52), 2, 2}},
		{all, 0, [3]float64{powerOf2(64) - powerOf2(11), powerOf2(64), powerOf2(64)}},
		// Below 2^-1022.
		{1, -1074, [3]float64{least, least, least}},
		{1, -1075, tiny}, {3, -1075, [3]float64{least, 2 * least, 2 * least}}, {5, -1075, [3]float64{2 * least, 2 * least, 3 * least}},
		{3, -1076, [3]float64{0, least, least}}, {1, -1076, tiny}, {1, -1080, tiny},
		{1 << 63, -1138, tiny}, {1<<63 + 1, -1138, [3]float64{0, least, least}}, {1<<63 - 1, -1138, tiny}, {all, -1138, [3]float64{0, least, least}},
		{1 << 63, -1137, [3]float64{least, least, least}}, {all, -1137, [3]float64{least, 2 * least, 2 * least}},
		{all, -1139, tiny}, {all, -1140, tiny}, {all, -1141, tiny}, {all, -2000, tiny}, {all, -4096, tiny}, {all, -5000, tiny},
		{all, math.MinInt, tiny}, {1, math.MinInt, tiny}, {1 << 63, math.MinInt + 1, tiny}, {all, math.MinInt32, tiny},
		{1<<53 - 1, -1075, [3]float64{powerOf2(-1022) - least, powerOf2(-1022), powerOf2(-1022)}},
		{1<<54 - 3, -1075, [3]float64{powerOf2(-1021) - 2*least, powerOf2(-1021) - 2*least, powerOf2(-1021) - least}},
		{1<<54 - 1, -1075, [3]float64{powerOf2(-1021) - least, powerOf2(-1021), powerOf2(-1021)}},
		// MAX, and beyond.
		{1<<53 - 1, 971, [3]float64{greatest, greatest, greatest}},
		{1<<54 - 1, 970, huge},
		{1<<55 - 3, 969, [3]float64{greatest, greatest, inf}},
		{1<<64 - 1<<10, 960, huge}, {1<<64 - 1<<10 - 1, 960, [3]float64{greatest, greatest, inf}},
		{1 << 63, 961, huge}, {1, 1024, huge}, {1, 1023, [3]float64{powerOf2(1023), powerOf2(1023), powerOf2(1023)}},
		{1 << 53, 971, huge}, {1 << 52, 972, huge}, {all, 961, huge}, {1, 2000, huge}, {1, 4096, huge}, {1, 5000, huge},
		{1, math.MaxInt, huge}, {all, math.MaxInt, huge}, {1, math.MaxInt - 1, huge}, {all, math.MaxInt32, huge},
	} {
		checkRound(t, api.Parts{M: c.m, E: c.e}, c.want)
		checkRound(t, api.Parts{Neg: true, M: c.m, E: c.e}, mirrored(c.want))
	}
}

// edgeWords are first bits with few of them set behind, and full words.
func edgeWords() []uint64 {
	ms := []uint64{1, 2, 3, 5, 7, math.MaxUint64, math.MaxUint64 - 1, 0xAAAAAAAAAAAAAAAA, 0x5555555555555555}
	for _, n := range []uint{9, 10, 11, 12, 51, 52, 53, 54, 55, 62, 63} {
		m := uint64(1) << n
		ms = append(ms, m, m-1, m+1, m+m>>52, m+m>>53, m+m>>53+1, m+m>>52+m>>53, m|m>>54, m+m>>53-1)
	}
	return ms
}

func TestRoundAgainstExactNumbers(t *testing.T) {
	es := []int{-1140, -1139, -1138, -1137, -1129, -1128, -1127, -1126, -1125, -1085, -1076, -1075, -1074, -1073, -64, -52, 0, 11, 907, 908, 959, 960, 961, 969, 970, 971, 972, 1023, 1024}
	for _, m := range edgeWords() {
		for _, e := range es {
			want := rounded(scaled(false, m, e))
			checkRound(t, api.Parts{M: m, E: e}, want)
			want = rounded(scaled(true, m, e))
			checkRound(t, api.Parts{Neg: true, M: m, E: e}, want)
		}
	}
	r := rand.New(rand.NewSource(3))
	for range 1500 {
		m, e, neg := r.Uint64()>>uint(r.Intn(64)), r.Intn(2400)-1200, r.Intn(2) == 0
		checkRound(t, api.Parts{Neg: neg, M: m, E: e}, rounded(scaled(neg, m, e)))
	}
}
