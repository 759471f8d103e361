package rat_test

import (
	"math"
	"math/big"
	"math/rand"
	"regexp"
	"strconv"
	"strings"
	"testing"

	"orrery/api"
	"orrery/rat"
)

// form is what texts of numbers look like, by the chapter's words.
var form = regexp.MustCompile(`\A([0-9]{1,40})(?:\.([0-9]{1,40}))?(?:[eE]([+-]?[0-9]{1,2}))?\z`)

// wantedRead is the number in the chapter's words: the digits, the point left out, times a power of 10.
func wantedRead(s string) answer {
	m := form.FindStringSubmatch(s)
	if m == nil {
		return failed(api.ErrNumber)
	}
	digits, _ := new(big.Int).SetString(m[1]+m[2], 10)
	exponent := 0
	if m[3] != "" {
		exponent, _ = strconv.Atoi(m[3])
	}
	x := new(big.Rat).SetInt(digits)
	return roomFor(x.Mul(x, powerOf(big.NewRat(10, 1), exponent-len(m[2]))))
}

func checkRead(t *testing.T, s string) {
	t.Helper()
	check(t, answered(rat.Read(s)), wantedRead(s), "Read", s)
}

func noughts(n int) string { return strings.Repeat("0", n) }

// TestRead is P11.3: which texts are numbers, and of those that are the answers, by hand.
func TestRead(t *testing.T) {
	ok := func(n, d int64) answer { return answer{q(n, d), api.OK} }
	noNumber, noRoom := failed(api.ErrNumber), failed(api.ErrOver)
	for _, c := range []struct {
		s    string
		want answer
	}{
		{"0", ok(0, 1)}, {"7", ok(7, 1)}, {"007", ok(7, 1)}, {"10", ok(10, 1)}, {"1.5", ok(3, 2)}, {"0.25", ok(1, 4)}, {"00.250", ok(1, 4)},
		{"1.50e2", ok(150, 1)}, {"1.50E2", ok(150, 1)}, {"1.50e+2", ok(150, 1)}, {"1.50E-2", ok(3, 200)}, {"1e-2", ok(1, 100)},
		{"1e0", ok(1, 1)}, {"1e00", ok(1, 1)}, {"1e-00", ok(1, 1)}, {"2e05", ok(200000, 1)}, {"2e+05", ok(200000, 1)}, {"20e-01", ok(2, 1)}, {"0.1e1", ok(1, 1)},
		{"1e002", noNumber}, {"1e+002", noNumber}, {"1e-000", noNumber}, {"1e100", noNumber},
		{"0e99", ok(0, 1)}, {"0.0e-99", ok(0, 1)}, {"0e+99", ok(0, 1)}, {noughts(40) + "." + noughts(40) + "e-99", ok(0, 1)}, {noughts(40) + "." + noughts(40) + "e99", ok(0, 1)},
		{"", noNumber}, {".", noNumber}, {".5", noNumber}, {"5.", noNumber}, {"5.e1", noNumber}, {".e1", noNumber}, {"e1", noNumber}, {"E", noNumber},
		{"1e", noNumber}, {"1e+", noNumber}, {"1e-", noNumber}, {"1e+-1", noNumber}, {"1e++1", noNumber}, {"1e1.5", noNumber}, {"1e1e1", noNumber}, {"1.2.3", noNumber}, {"1..2", noNumber}, {"1ee1", noNumber},
		{"+1", noNumber}, {"-1", noNumber}, {"--1", noNumber}, {"1+", noNumber}, {"1-1", noNumber}, {"1.-5", noNumber}, {"1.+5", noNumber},
		{" 1", noNumber}, {"1 ", noNumber}, {"1 2", noNumber}, {"1. 5", noNumber}, {"1e 5", noNumber}, {"1\n", noNumber}, {"\t1", noNumber}, {"1\x00", noNumber},
		{"x", noNumber}, {"1x", noNumber}, {"0x1", noNumber}, {"1_0", noNumber}, {"1,5", noNumber}, {"1/2", noNumber}, {"1d2", noNumber}, {"Inf", noNumber}, {"NaN", noNumber}, {"1f", noNumber},
		{"٣", noNumber}, {"１", noNumber}, {"ß", noNumber}, {"1\xff", noNumber}, {"/", noNumber}, {":", noNumber}, {"1/", noNumber}, {"1:", noNumber},
		{"1e40", noRoom}, {"1e18", ok(1000000000000000000, 1)}, {"1e19", noRoom}, {"9e18", ok(9000000000000000000, 1)}, {"10e18", noRoom}, {"1e99", noRoom}, {"1e-99", noRoom},
		{"9223372036854775807", ok(top, 1)}, {"9223372036854775808", noRoom}, {"9223372036854775806", ok(top-1, 1)}, {"18446744073709551616", noRoom}, {"18446744073709551617", noRoom}, {"340282366920938463463374607431768211457", noRoom},
		{"1e-18", ok(1, 1000000000000000000)}, {"1e-19", noRoom}, {"2e-19", ok(1, 5000000000000000000)}, {"4e-19", ok(1, 2500000000000000000)}, {"5e-19", ok(1, 2000000000000000000)},
	} {
		check(t, answered(rat.Read(c.s)), c.want, "Read", c.s)
		checkRead(t, c.s)
	}
}

// TestReadLengths has texts of all lengths around those that are allowed.
func TestReadLengths(t *testing.T) {
	for n := range 45 {
		for _, digit := range []string{"0", "1", "5", "9"} {
			run := strings.Repeat(digit, n)
			for _, s := range []string{run, run + ".5", "1." + run, run + "." + run, run + "e-9", "0." + run + "e40", noughts(n) + "1", noughts(n) + "1." + run, "1." + noughts(n) + "1", "3" + noughts(n) + "e-" + strconv.Itoa(n)} {
				checkRead(t, s)
			}
		}
	}
	forty := noughts(39) + "5"
	check(t, answered(rat.Read(forty)), answer{q(5, 1), api.OK}, "Read", forty)
	check(t, answered(rat.Read("0"+forty)), failed(api.ErrNumber), "Read", "0"+forty)
	behind := "5" + noughts(39)
	check(t, answered(rat.Read("0."+behind)), answer{q(1, 2), api.OK}, "Read", "0."+behind)
	check(t, answered(rat.Read("0."+behind+"0")), failed(api.ErrNumber), "Read", "0."+behind+"0")
	check(t, answered(rat.Read(forty+"."+behind+"e0")), answer{q(11, 2), api.OK}, "Read", forty+"."+behind)
	check(t, answered(rat.Read(strings.Repeat("9", 1<<20))), failed(api.ErrNumber), "Read", "many digits")
}

// spread writes x with places digits behind the point, once 10 to the power shift is taken off; empty, if it can't be.
func spread(x *big.Rat, places, shift int) string {
	digits := new(big.Rat).Mul(x, powerOf(big.NewRat(10, 1), places-shift))
	if !digits.IsInt() {
		return ""
	}
	s := digits.Num().String()
	s = noughts(max(places+1-len(s), 0)) + s
	if s = s[:len(s)-places] + "." + s[len(s)-places:]; places == 0 {
		s = strings.TrimSuffix(s, ".")
	}
	return s + "e" + strconv.Itoa(shift)
}

// TestReadRoom has numbers that just have room, and just have none, with noughts and points all over, and with divisors 2^p 5^q, which leave few of many digits.
func TestReadRoom(t *testing.T) {
	var tried, withRoom int
	for _, n := range []int64{1, 3, top - 2, top - 1, top, 1 << 62, 1<<62 - 1, 7450580596923828125, 1000000000000000000} {
		for _, twos := range []int{0, 1, 2, 3, 10, 31, 32, 35, 61, 62, 63, 64} {
			for _, fives := range []int{0, 1, 2, 3, 13, 26, 27, 28} {
				x := big.NewRat(n, 1)
				x.Mul(x, powerOf(big.NewRat(1, 2), twos))
				x.Mul(x, powerOf(big.NewRat(1, 5), fives))
				for places := 0; places <= 40; places += 4 {
					for shift := -60; shift <= 60; shift += 3 {
						s := spread(x, places, shift)
						if !form.MatchString(s) {
							continue
						}
						tried++
						if roomFor(x).e == api.OK {
							withRoom++
						}
						check(t, answered(rat.Read(s)), roomFor(x), "Read", s)
					}
				}
			}
		}
	}
	if tried < 5000 || withRoom < 2000 || tried-withRoom < 1000 {
		t.Errorf("of %d texts %d have room: too few were tried", tried, withRoom)
	}
}

// TestReadRoomByHand has the longest of these: of 3 / 2^62 all 44 digits count, and nothing is left of them but a 3.
func TestReadRoomByHand(t *testing.T) {
	for _, c := range []struct {
		s    string
		want answer
	}{
		{"6505.2130349130266040447168052196502685546875e-22", answer{q(3, 1<<62), api.OK}},
		{"6505.2130349130266040447168052196502685546876e-22", failed(api.ErrOver)},
		{"9223372036854775807" + noughts(21) + "e-21", answer{q(top, 1), api.OK}},
		{"9223372036854775808" + noughts(21) + "e-21", failed(api.ErrOver)},
		{noughts(21) + "9223372036854775807." + noughts(40), answer{q(top, 1), api.OK}},
		{noughts(21) + "9223372036854775807." + noughts(39) + "1", failed(api.ErrOver)},
		{"0." + noughts(21) + "9223372036854775807e40", answer{q(top, 1), api.OK}},
		{"0." + noughts(21) + "9223372036854775807e41", failed(api.ErrOver)},
		{"0." + noughts(39) + "1e40", answer{q(1, 1), api.OK}},
		{"0." + noughts(39) + "1e58", answer{q(1000000000000000000, 1), api.OK}},
		{"0." + noughts(39) + "1e59", failed(api.ErrOver)},
		{"1" + noughts(39) + "e-39", answer{q(1, 1), api.OK}},
		{"1" + noughts(39) + "e-57", answer{q(1, 1000000000000000000), api.OK}},
		{"1" + noughts(39) + "e-58", failed(api.ErrOver)},
		{"134217728e-27", answer{q(1, 7450580596923828125), api.OK}}, // 2^27 10^-27
		{"268435456e-28", failed(api.ErrOver)},                       // 2^28 10^-28
		{"0.5", answer{q(1, 2), api.OK}},
	} {
		check(t, answered(rat.Read(c.s)), c.want, "Read", c.s)
		checkRead(t, c.s)
	}
}

// TestReadByChance has texts that are nearly numbers, or are some.
func TestReadByChance(t *testing.T) {
	r := rand.New(rand.NewSource(5))
	run := func(most int) string {
		out := make([]byte, r.Intn(most+1))
		digits := []string{"0123456789", "05", "02468", "0001"}[r.Intn(4)]
		for i := range out {
			out[i] = digits[r.Intn(len(digits))]
		}
		return string(out)
	}
	seen := map[api.Errno]int{}
	for range 30000 {
		s := run([]int{3, 20, 42}[r.Intn(3)])
		if r.Intn(2) == 0 {
			s += "." + run([]int{3, 20, 42}[r.Intn(3)])
		}
		if r.Intn(2) == 0 {
			s += []string{"e", "E"}[r.Intn(2)] + []string{"", "+", "-"}[r.Intn(3)] + run(3)
		}
		if r.Intn(6) == 0 {
			const others = "0.eE+- x_\n\xc3"
			k := r.Intn(len(s) + 1)
			s = s[:k] + string(others[r.Intn(len(others))]) + s[k:]
		}
		checkRead(t, s)
		seen[wantedRead(s).e]++
	}
	if seen[api.OK] < 2000 || seen[api.ErrNumber] < 2000 || seen[api.ErrOver] < 2000 {
		t.Errorf("too few of a kind: %v", seen)
	}
}

// TestReadBytes has all bytes, alone and at all places of a number.
func TestReadBytes(t *testing.T) {
	const number = "12.50e+07"
	for b := range 256 {
		c := string([]byte{byte(b)})
		checkRead(t, c)
		for k := range len(number) + 1 {
			checkRead(t, number[:k]+c+number[k:])
			if k < len(number) {
				checkRead(t, number[:k]+c+number[k+1:])
			}
		}
	}
}

// TestPrint is P11.3's last part.
func TestPrint(t *testing.T) {
	for _, c := range []struct {
		a    api.Rat
		want string
	}{
		{q(0, 1), "0"}, {q(7, 1), "7"}, {q(-7, 1), "-7"}, {q(3, 4), "3/4"}, {q(-3, 4), "-3/4"}, {q(100, 3), "100/3"},
		{q(top, 1), "9223372036854775807"}, {q(-top, 1), "-9223372036854775807"},
		{q(-top, top-1), "-9223372036854775807/9223372036854775806"}, {q(1, top), "1/9223372036854775807"},
		{q(math.MinInt64, 1), ""}, {q(0, 2), ""}, {api.Rat{}, ""}, {q(1, -2), ""},
	} {
		if got := rat.Print(c.a); got != c.want {
			t.Errorf("Print(%v) = %q, want %q", c.a, got, c.want)
		}
	}
	for _, a := range append(numbers(), edges()...) {
		if got, want := rat.Print(a), exact(a).RatString(); got != want {
			t.Errorf("Print(%v) = %q, want %q", a, got, want)
		}
	}
	for _, a := range wrong() {
		if got := rat.Print(a); got != "" {
			t.Errorf("Print(%v) = %q", a, got)
		}
	}
}

// TestPrintedWholesAreRead: what Print writes of whole numbers of 0 or more, Read reads.
func TestPrintedWholesAreRead(t *testing.T) {
	for _, n := range wholes() {
		if n >= 0 {
			check(t, answered(rat.Read(rat.Print(q(n, 1)))), answer{q(n, 1), api.OK}, "Read of Print", n)
		}
	}
}
