package parse_test

import (
	"strings"
	"testing"

	"orrery/api"
	"orrery/lex"
	"orrery/parse"
)

func checkPrint(t *testing.T, tree api.Tree, want string) {
	t.Helper()
	if got, e := parse.Print(tree); e != api.OK || got != want {
		t.Errorf("%q %d, not %q", got, e, want)
	}
}

// checkItem asks for the text of an item.
func checkItem(t *testing.T, item api.Tree, want string) {
	t.Helper()
	checkPrint(t, fileOf(item), "model A\n"+want+";\nend;")
}

func checkExpression(t *testing.T, expression api.Tree, want string) {
	t.Helper()
	checkPrint(t, equation(expression), "model A\n"+want+" = 0;\nend;")
	checkPrint(t, fileOf(t0(api.IEquation, num(0, 1), expression)), "model A\n0 = "+want+";\nend;")
	checkItem(t, part("p", 0, "B", named(api.IMod, "k", expression), named(api.IMod, "j", expression)), "part p: B(k = "+want+", j = "+want+")")
	checkItem(t, t0(api.IStart, id("x"), expression, expression), "start x = "+want)
	checkItem(t, t0(api.IStart, id("x"), expression, t0(api.ETime)), "start x in ["+want+", time]")
}

func TestPrintFiles(t *testing.T) {
	m := named(api.UName, "m")
	checkPrint(t, t0(api.DFile), "")
	checkPrint(t, t0(api.DFile, named(api.DUnit, "m")), "unit m;")
	checkPrint(t, t0(api.DFile, named(api.DUnit, "m"), named(api.DUnit, "v", m)), "unit m;\nunit v = m;")
	checkPrint(t, t0(api.DFile, class(1, "A")), "model A\nend;")
	checkPrint(t, t0(api.DFile, class(2, "A"), named(api.DUnit, "m"), class(1, "B", variable("x", 0, false))), "connector A\nend;\nunit m;\nmodel B\nvar x;\nend;")
}

func TestPrintItems(t *testing.T) {
	m, x, one := named(api.UName, "m"), id("x"), num(1, 1)
	checkItem(t, named(api.IParam, "k", t0(api.DType), one), "param k = 1")
	checkItem(t, named(api.IParam, "k", t0(api.DType, m), t0(api.ENeg, one)), "param k: m = -1")
	checkItem(t, variable("x", 0, false), "var x")
	checkItem(t, variable("x", 0, true), "flow x")
	checkItem(t, variable("x", 1, false, m), "var x[1]: m")
	checkItem(t, variable("x", 1000000, true, t0(api.UDiv, m, m)), "flow x[1000000]: m / m")
	checkItem(t, part("p", 0, "B"), "part p: B")
	checkItem(t, part("p", 12, "B"), "part p[12]: B")
	checkItem(t, part("p", 3, "B", named(api.IMod, "k", one)), "part p[3]: B(k = 1)")
	checkItem(t, t0(api.IStart, t0(api.EDer, x), one, num(2, 1)), "start der(x) in [1, 2]")
	checkItem(t, t0(api.IStart, ref(el("p"), el("x", one)), x, x), "start p.x[1] = x")
	checkItem(t, t0(api.IConnect, x, ref(el("p", id("i")), el("q"))), "connect(x, p[i].q)")
	checkItem(t, loop("i", 0, 1000000), "for i in 0..1000000 do\nend")
	checkItem(t, loop("i", 1, 2, loop("j", 3, 4, t0(api.IEquation, x, one)), t0(api.IConnect, x, x)), "for i in 1..2 do\nfor j in 3..4 do\nx = 1;\nend;\nconnect(x, x);\nend")
}

// Two expressions of a start are the same, or differ somewhere.
func TestPrintStarts(t *testing.T) {
	x, y := id("x"), id("y")
	all := []api.Tree{x, y, ref(el("x"), el("x")), ref(el("x", num(1, 1))), ref(el("x", num(2, 1))), ref(el("x", id("i"))), ref(el("x", id("j"))), num(1, 1), num(2, 1), num(1, 2), t0(api.ETime), t0(api.EDer, x), t0(api.EDer, y), call(api.TSin, x), call(api.TCos, x), call(api.TSin, y), t0(api.ENeg, x), t0(api.ENeg, y), t0(api.EAdd, x, y), t0(api.EAdd, y, x), t0(api.ESub, x, y), power(x, 1), power(x, -1), power(y, 1)}
	for i, a := range all {
		for j, b := range all {
			want := "start x in [" + writtenExpr(a) + ", " + writtenExpr(b) + "]"
			if i == j {
				want = "start x = " + writtenExpr(a)
			}
			checkItem(t, t0(api.IStart, x, copied(a), copied(b)), want)
		}
	}
}

func TestPrintExpressions(t *testing.T) {
	x, y, two := id("x"), id("y"), num(2, 1)
	sum, product, neg, square := t0(api.EAdd, x, y), t0(api.EMul, x, y), t0(api.ENeg, x), power(x, 2)
	for want, tree := range map[string]api.Tree{
		"x":                      x,
		"x.y[2].z[i].w[i + 2]":   ref(el("x"), el("y", two), el("z", id("i")), el("w", t0(api.EAdd, id("i"), two))),
		"x[i - 0]":               ref(el("x", t0(api.ESub, id("i"), num(0, 1)))),
		"time":                   t0(api.ETime),
		"der(x.y)":               t0(api.EDer, ref(el("x"), el("y"))),
		"sqrt(x)":                call(api.TSqrt, x),
		"exp(x)":                 call(api.TExp, x),
		"log(-x)":                call(api.TLog, neg),
		"sin(x + y)":             call(api.TSin, sum),
		"cos(x^2)":               call(api.TCos, square),
		"atan(cos(x))":           call(api.TAtan, call(api.TCos, x)),
		"-x":                     neg,
		"-2":                     t0(api.ENeg, two),
		"-time":                  t0(api.ENeg, t0(api.ETime)),
		"-sin(x)":                t0(api.ENeg, call(api.TSin, x)),
		"-(-x)":                  t0(api.ENeg, neg),
		"-(x + y)":               t0(api.ENeg, sum),
		"-(x * y)":               t0(api.ENeg, product),
		"-(x^2)":                 t0(api.ENeg, square),
		"x + y":                  sum,
		"x - y":                  t0(api.ESub, x, y),
		"x * y":                  product,
		"x / y":                  t0(api.EDiv, x, y),
		"(x + y) + (x + y)":      t0(api.EAdd, sum, sum),
		"(x * y) - (-x)":         t0(api.ESub, product, neg),
		"(-x) * (x^2)":           t0(api.EMul, neg, square),
		"(x / y) / (x - y)":      t0(api.EDiv, t0(api.EDiv, x, y), t0(api.ESub, x, y)),
		"sin(x) + der(y)":        t0(api.EAdd, call(api.TSin, x), t0(api.EDer, y)),
		"x^2":                    square,
		"2^0":                    power(two, 0),
		"x^-64":                  power(x, -64),
		"(x^2)^2":                power(square, 2),
		"(-x)^2":                 power(neg, 2),
		"(x + y)^2":              power(sum, 2),
		"sin(x)^2":               power(call(api.TSin, x), 2),
		"der(x)^-1":              power(t0(api.EDer, x), -1),
		"x.y^2":                  power(ref(el("x"), el("y")), 2),
		"-((-(x * y))^2)":        t0(api.ENeg, power(t0(api.ENeg, product), 2)),
		"((-x)^2) * (-(x^2))":    t0(api.EMul, power(neg, 2), t0(api.ENeg, square)),
		"((x + y)^-1) - (-x)":    t0(api.ESub, power(sum, -1), neg),
		"cos((x + y) / (-time))": call(api.TCos, t0(api.EDiv, sum, t0(api.ENeg, t0(api.ETime)))),
	} {
		if tree.Kind == api.ETime {
			checkPrint(t, equation(tree), "model A\ntime = 0;\nend;")
			continue
		}
		checkExpression(t, tree, want)
	}
}

func TestPrintNumbers(t *testing.T) {
	for want, n := range map[string]api.Rat{
		"0":                          {N: 0, D: 1},
		"7":                          {N: 7, D: 1},
		"10":                         {N: 10, D: 1},
		"0.5":                        {N: 1, D: 2},
		"1.5":                        {N: 3, D: 2},
		"0.1":                        {N: 1, D: 10},
		"100.01":                     {N: 10001, D: 100},
		"0.000001":                   {N: 1, D: 1000000},
		"1000000000000000000":        {N: 1000000000000000000, D: 1},
		"9223372036854775807":        {N: 9223372036854775807, D: 1},
		"0.000000000000000001":       {N: 1, D: 1000000000000000000},
		"0.999999999999999999":       {N: 999999999999999999, D: 1000000000000000000},
		"9.223372036854775807":       {N: 9223372036854775807, D: 1000000000000000000},
		"922337203685.4775807":       {N: 9223372036854775807, D: 10000000},
		"4611686018427387903.5":      {N: 9223372036854775807, D: 2},
		"1844674407370955161.4":      {N: 9223372036854775807, D: 5},
		"0.000003814697265625":       {N: 1, D: 262144},
		"0.000000000000262144":       {N: 1, D: 3814697265625},
		"2417851.639229258349150208": {N: 9223372036854775807, D: 3814697265625},
	} {
		checkExpression(t, api.Tree{Kind: api.ENum, Num: n}, want)
		checkExpression(t, power(api.Tree{Kind: api.ENum, Num: n}, 2), want+"^2")
	}
}

func TestPrintDimensions(t *testing.T) {
	m, s, one := named(api.UName, "m"), named(api.UName, "s"), t0(api.UOne)
	for want, tree := range map[string]api.Tree{
		"1":                      one,
		"m":                      m,
		"m * s":                  t0(api.UMul, m, s),
		"1 / s":                  t0(api.UDiv, one, s),
		"m^2":                    upower(m, 2, 1),
		"m^0":                    upower(m, 0, 1),
		"1^-64":                  upower(one, -64, 1),
		"m^(1 / 2)":              upower(m, 1, 2),
		"m^(-63 / 64)":           upower(m, -63, 64),
		"m / (s^2)":              t0(api.UDiv, m, upower(s, 2, 1)),
		"(m * s) * s":            t0(api.UMul, t0(api.UMul, m, s), s),
		"m * (s / s)":            t0(api.UMul, m, t0(api.UDiv, s, s)),
		"(m / s)^(1 / 2)":        upower(t0(api.UDiv, m, s), 1, 2),
		"(m * s)^-1":             upower(t0(api.UMul, m, s), -1, 1),
		"(m^2)^(2 / 3)":          upower(upower(m, 2, 1), 2, 3),
		"(m^(1 / 2)) / (s^-1)":   t0(api.UDiv, upower(m, 1, 2), upower(s, -1, 1)),
		"((m * s) / s)^(-1 / 2)": upower(t0(api.UDiv, t0(api.UMul, m, s), s), -1, 2),
	} {
		checkPrint(t, t0(api.DFile, named(api.DUnit, "u", tree)), "unit u = "+want+";")
		checkItem(t, variable("x", 2, false, tree), "var x[2]: "+want)
		checkItem(t, named(api.IParam, "k", t0(api.DType, tree), num(1, 1)), "param k: "+want+" = 1")
		checkTree(t, "unit u = "+want+";", t0(api.DFile, named(api.DUnit, "u", tree)))
	}
}

// longUnits is a file of 646 units: the first one's name has so many bytes, the last one's 1, all others' 24.
func longUnits(first int) api.Tree {
	file := t0(api.DFile, named(api.DUnit, strings.Repeat("u", first)))
	for range 644 {
		file.Kids = append(file.Kids, named(api.DUnit, strings.Repeat("u", 24)))
	}
	file.Kids = append(file.Kids, named(api.DUnit, "u"))
	return file
}

func TestPrintBytes(t *testing.T) {
	fits := longUnits(22)
	if n := len(written(fits)); n != api.MaxText {
		t.Fatal(n)
	}
	checkPrint(t, fits, written(fits))
	checkTree(t, written(fits), fits)
	for _, first := range []int{23, 24} {
		checkRight(t, longUnits(first), api.OK)
		if text, e := parse.Print(longUnits(first)); text != "" || e != api.ErrLong {
			t.Error(len(text), e)
		}
	}
}

// A unit has 3 tokens, or 5 with a dimension.
func TestPrintTokens(t *testing.T) {
	file := func(short, long int) api.Tree {
		file := t0(api.DFile)
		for range short {
			file.Kids = append(file.Kids, named(api.DUnit, "m"))
		}
		for range long {
			file.Kids = append(file.Kids, named(api.DUnit, "m", t0(api.UOne)))
		}
		return file
	}
	fits := file(1330, 2)
	checkPrint(t, fits, written(fits))
	checkTree(t, written(fits), fits)
	for _, long := range []api.Tree{file(1332, 1), file(1334, 0), file(0, 801)} {
		checkRight(t, long, api.OK)
		if text, e := parse.Print(long); text != "" || e != api.ErrLong {
			t.Error(len(text), e)
		}
	}
	starts := fileOf() // with IN they would have too many tokens
	for range 398 {
		starts.Kids[0].Kids = append(starts.Kids[0].Kids, t0(api.IStart, id("x"), t0(api.EMul, num(1, 1), num(2, 1)), t0(api.EMul, num(1, 1), num(2, 1))))
	}
	checkPrint(t, starts, written(starts))
}

// padded is a file with units behind it, to so many tokens: 3 of a unit, or 5 with a dimension.
func padded(t *testing.T, file api.Tree, tokens int) api.Tree {
	list, e, _ := lex.Lex(written(file))
	if e != api.OK {
		t.Fatal(e)
	}
	left := tokens - (len(list) - 1)
	file = copied(file)
	for ; left%3 != 0; left -= 5 {
		file.Kids = append(file.Kids, named(api.DUnit, "m", t0(api.UOne)))
	}
	for ; left > 0; left -= 3 {
		file.Kids = append(file.Kids, named(api.DUnit, "m"))
	}
	return file
}

// Each token counts, whatever it is.
func TestPrintTokensByChance(t *testing.T) {
	t.Parallel()
	for seed := range int64(30) {
		file := draw(seed).file()
		fits := padded(t, file, api.MaxTokens)
		checkPrint(t, fits, written(fits))
		for more := 1; more < 3; more++ {
			if text, e := parse.Print(padded(t, file, api.MaxTokens+more)); text != "" || e != api.ErrLong {
				t.Errorf("seed %d, %d more: %d bytes, %d", seed, more, len(text), e)
			}
		}
	}
}

func TestPrintByChance(t *testing.T) {
	t.Parallel()
	for seed := range int64(4000) {
		file := draw(seed).file()
		want := written(file)
		if len(want) > api.MaxText || nodes(file) > api.MaxTokens {
			t.Fatal(seed, len(want), nodes(file))
		}
		checkPrint(t, file, want)
	}
}
