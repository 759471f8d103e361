package parse_test

import (
	"fmt"
	"strings"
	"testing"

	"orrery/api"
	"orrery/parse"
)

// checkTree asks for the tree of a text.
func checkTree(t *testing.T, text string, want api.Tree) {
	t.Helper()
	got, e, at := parse.Parse(text)
	if e != api.OK || at != 0 || !equal(got, want) {
		t.Errorf("%q: %v %d %d, not %v", text, got, e, at, want)
	}
}

// checkStop asks for an error at a place, and nothing beside it.
func checkStop(t *testing.T, text string, e api.Errno, at int) {
	t.Helper()
	got, gotE, gotAt := parse.Parse(text)
	if gotE != e || gotAt != at || !equal(got, api.Tree{}) || got.Kids != nil {
		t.Errorf("%q: %v %d %d, not %d %d", text, got, gotE, gotAt, e, at)
	}
}

// checkMarked asks for an error at the place of the @ (which is left out).
func checkMarked(t *testing.T, marked string, e api.Errno) {
	t.Helper()
	checkStop(t, strings.Replace(marked, "@", "", 1), e, strings.Index(marked, "@"))
}

func TestExamples(t *testing.T) {
	for _, x := range [][2]string{
		{"unit m;unit v=m/s^2;", "unit m;\nunit v = m / (s^2);"},
		{"model A var x; start x=1.50; der(x) = -x+2*(x-1)^2; end;", "model A\nvar x;\nstart x = 1.5;\nder(x) = (-x) + (2 * ((x - 1)^2));\nend;"},
		{"model B part p[3]: A(k=2); for i in 1..2 do connect(p[i].n, p[i+1].n); end; end;", "model B\npart p[3]: A(k = 2);\nfor i in 1..2 do\nconnect(p[i].n, p[i + 1].n);\nend;\nend;"},
		{"", ""},
	} {
		tree, e, at := parse.Parse(x[0])
		text, e2 := parse.Print(tree)
		if e != api.OK || at != 0 || e2 != api.OK || text != x[1] {
			t.Errorf("%q: %d %d, %q %d", x[0], e, at, text, e2)
		}
	}
	checkStop(t, "model A x = ; end;", api.ErrToken, 12)
	checkStop(t, "model", api.ErrEnd, 5)
	checkStop(t, "unit u = 2;", api.ErrNumber, 9)
	checkStop(t, "model A x = y^99; end;", api.ErrNumber, 14)
}

func TestFilesByHand(t *testing.T) {
	m, s := named(api.UName, "m"), named(api.UName, "s")
	one := t0(api.UOne)
	for text, want := range map[string]api.Tree{
		"":                   t0(api.DFile),
		" // model A\n\t\r ": t0(api.DFile),
		"unit m;":            t0(api.DFile, named(api.DUnit, "m")),
		"unit v = 1;":        t0(api.DFile, named(api.DUnit, "v", one)),
		"unit v = 1.00e0;":   t0(api.DFile, named(api.DUnit, "v", one)),
		"unit v = m/s*m;":    t0(api.DFile, named(api.DUnit, "v", t0(api.UMul, t0(api.UDiv, m, s), m))),
		"unit v = m/(s*m);":  t0(api.DFile, named(api.DUnit, "v", t0(api.UDiv, m, t0(api.UMul, s, m)))),
		"unit v = m/s^-2;":   t0(api.DFile, named(api.DUnit, "v", t0(api.UDiv, m, upower(s, -2, 1)))),
		"unit v=(m/s)^(4/6);unit w=((m))^(-0/6);unit y=1^(-64/64);": t0(api.DFile,
			named(api.DUnit, "v", upower(t0(api.UDiv, m, s), 2, 3)), named(api.DUnit, "w", upower(m, 0, 1)), named(api.DUnit, "y", upower(one, -1, 1))),
		"model A end; unit m; connector B end; model A end;": t0(api.DFile, class(1, "A"), named(api.DUnit, "m"), class(2, "B"), class(1, "A")),
	} {
		checkTree(t, text, want)
	}
}

func TestItemsByHand(t *testing.T) {
	m, x, one, two := named(api.UName, "m"), id("x"), num(1, 1), num(2, 1)
	for text, want := range map[string]api.Tree{
		"param k = 1;":              named(api.IParam, "k", t0(api.DType), one),
		"param k: m = 1;":           named(api.IParam, "k", t0(api.DType, m), one),
		"var x;":                    variable("x", 0, false),
		"flow x;":                   variable("x", 0, true),
		"var x[0];":                 variable("x", 0, false),
		"var x[1000000]: m;":        variable("x", 1000000, false, m),
		"flow x[3e0]: m*m;":         variable("x", 3, true, t0(api.UMul, m, m)),
		"part p: B;":                part("p", 0, "B"),
		"part p[2]: B;":             part("p", 2, "B"),
		"part p: B(k = 1, j = x);":  part("p", 0, "B", named(api.IMod, "k", one), named(api.IMod, "j", x)),
		"start x = 1;":              t0(api.IStart, x, one, one),
		"start x in [1, 2];":        t0(api.IStart, x, one, two),
		"start der(x) in [2, 2.0];": t0(api.IStart, t0(api.EDer, x), two, two),
		"start p.x = x;":            t0(api.IStart, ref(el("p"), el("x")), x, x),
		"connect(x, p[1].q);":       t0(api.IConnect, x, ref(el("p", one), el("q"))),
		"x = 1;":                    t0(api.IEquation, x, one),
		"for i in 1..0 do end;":     loop("i", 1, 0),
		"for i in 0..1000000 do for j in 2..2 do x = 1; end; connect(x, x); end;": loop("i", 0, 1000000, loop("j", 2, 2, t0(api.IEquation, x, one)), t0(api.IConnect, x, x)),
	} {
		checkTree(t, "model A "+text+" end;", fileOf(want))
		checkTree(t, "model A "+text+text+" end;", fileOf(want, want))
	}
}

func TestExpressionsByHand(t *testing.T) {
	x, y, z, two := id("x"), id("y"), id("z"), num(2, 1)
	neg := func(a api.Tree) api.Tree { return t0(api.ENeg, a) }
	i := id("i")
	for text, want := range map[string]api.Tree{
		"2":               two,
		"1.25":            num(5, 4),
		"time":            t0(api.ETime),
		"x":               x,
		"x.y.z":           ref(el("x"), el("y"), el("z")),
		"x[2]":            ref(el("x", two)),
		"x[i]":            ref(el("x", i)),
		"x[i+2].y[i - 2]": ref(el("x", t0(api.EAdd, i, two)), el("y", t0(api.ESub, i, two))),
		"der(x.y)":        t0(api.EDer, ref(el("x"), el("y"))),
		"sqrt(x)":         call(api.TSqrt, x),
		"exp(x)":          call(api.TExp, x),
		"log(x)":          call(api.TLog, x),
		"sin(x)":          call(api.TSin, x),
		"cos(x)":          call(api.TCos, x),
		"atan(x + y)":     call(api.TAtan, t0(api.EAdd, x, y)),
		"x - y - z":       t0(api.ESub, t0(api.ESub, x, y), z),
		"x - (y - z)":     t0(api.ESub, x, t0(api.ESub, y, z)),
		"x / y / z":       t0(api.EDiv, t0(api.EDiv, x, y), z),
		"x / (y * z)":     t0(api.EDiv, x, t0(api.EMul, y, z)),
		"x + y * z":       t0(api.EAdd, x, t0(api.EMul, y, z)),
		"x * y + z":       t0(api.EAdd, t0(api.EMul, x, y), z),
		"(x + y) * z":     t0(api.EMul, t0(api.EAdd, x, y), z),
		"((x))":           x,
		"-x":              neg(x),
		"--x":             neg(neg(x)),
		"-2":              neg(two),
		"x - -y":          t0(api.ESub, x, neg(y)),
		"-x * y":          t0(api.EMul, neg(x), y),
		"-x + y":          t0(api.EAdd, neg(x), y),
		"x * -y / -z":     t0(api.EDiv, t0(api.EMul, x, neg(y)), neg(z)),
		"-x^2":            neg(power(x, 2)),
		"(-x)^2":          power(neg(x), 2),
		"x^-2":            power(x, -2),
		"x^-0":            power(x, 0),
		"x^64 / x^-64":    t0(api.EDiv, power(x, 64), power(x, -64)),
		"(x^2)^3":         power(power(x, 2), 3),
		"2^2.0":           power(two, 2),
		"der(x)^2":        power(t0(api.EDer, x), 2),
		"x - 2":           t0(api.ESub, x, two),
		"x[i]^2":          power(ref(el("x", i)), 2),
	} {
		checkTree(t, "model A "+text+" = 0; end;", equation(want))
		checkTree(t, "model A 0 = ("+text+"); end;", fileOf(t0(api.IEquation, num(0, 1), want)))
	}
}

func TestLexErrorsComeFirst(t *testing.T) {
	checkMarked(t, "@?", api.ErrByte)
	checkMarked(t, "model model @?", api.ErrByte)
	checkMarked(t, "unit u = 2; unit @abcdefghijklmnopqrstuvwxy;", api.ErrLong)
	checkMarked(t, "unit u = 2; @1e99", api.ErrOver)
	checkMarked(t, "unit u = 2; @1e000", api.ErrNumber)
	checkStop(t, ";"+strings.Repeat(" ", api.MaxText), api.ErrLong, 0)
	checkStop(t, repeated(";", api.MaxTokens+1), api.ErrLong, 2*api.MaxTokens)
	checkStop(t, repeated(";", api.MaxTokens), api.ErrToken, 0)
}

func TestWrongFilesByHand(t *testing.T) {
	for _, text := range []string{
		"@;", "@x", "@1", "@end;", "@var x;", "@in", "unit m;@;", "unit m;@x = 1;", "model A end;@end;",
		"unit @;", "unit @unit", "unit @1;", "unit @sin;", "unit m @n;", "unit m @[", "unit m @: n;", "unit m = @;", "unit m = @= n;", "unit m = n @n;", "unit m = n ^@;", "unit m = n^@n;",
		"unit m = n^2@^2;", "unit m = n^-@-2;", "unit m = n^(1@);", "unit m = n^(1/@-2);", "unit m = n^(1/2@/2);", "unit m = n^(@/2);", "unit m = (n@;", "unit m = (@);", "unit m = @-n;", "unit m = n @+ n;", "unit m = n *@;", "unit m = @*n;", "unit m = n@.n;", "unit m = n@[1];", "unit m = @sin(n);", "unit m = @time;",
		"model @;", "model @model;", "model A@;", "model A end @end", "model A end @x", "connector @1", "connector A @unit m;", "model A @model B end; end;",
		"model A end; @end;",
	} {
		checkMarked(t, text, api.ErrToken)
	}
	for _, text := range []string{"unit@", "unit m@", "unit m =@", "unit m = (@", "unit m = n^@", "unit m = n^-@", "unit m = n^(@", "unit m = n^(1/2)@", "unit m; unit@", "model A@", "model A var x;@", "model A end@", "connector@", "unit m  @", "model A // end;@"} {
		checkMarked(t, text, api.ErrEnd)
	}
}

func TestWrongItemsByHand(t *testing.T) {
	for _, text := range []string{
		"@;", "x@;", "x = @;", "x = y @z;", "x = y @= z;", "@= y;", "x =@= y;", "@]", "@unit", "@in", "@do", "@:",
		"param @= 1;", "param k@;", "param k = @;", "param k: @= 1;", "param k: m@;", "param k @[1] = 1;", "param @time = 1;", "param k = 1@= 2;",
		"var @;", "var x @y;", "var x@, y;", "var x @= 1;", "var x[@];", "var x[@i];", "var x[@-1];", "var x[1@;", "var x[1@, 2];", "var x[1]@[1];", "var x: @;", "var x: m@[1];", "var x@(1);", "flow @;", "flow @var x;", "var @flow x;",
		"part @;", "part p@;", "part p @A;", "part p: @;", "part p: @1;", "part p: A @B;", "part p: A(@);", "part p: A(k@);", "part p: A(k = @);", "part p: A(k = 1@;", "part p: A(k = 1,@);", "part p: A(k = 1 @j = 2);", "part p: A(@2);", "part p: A(k@[1] = 2);", "part p: A(k = 1)@(j = 1);", "part p: A@[2];", "part p[2]@;", "part p[2@: A;",
		"start @;", "start @= 1;", "start x@;", "start x @1;", "start x[@] = 1;", "start x = @;", "start @1 = 1;", "start @(x) = 1;", "start @-x = 1;", "start x @+ y = 1;", "start x in @1;", "start x in [@];", "start x in [1@];", "start x in [1,@];", "start x in [1, 2@, 3];", "start x in [1, 2@;", "start x in [1, 2]@= 1;", "start x = 1 @in [1, 2];", "start @in [1, 2];", "start @time = 1;", "start der(@der(x)) = 1;", "start der(x)@.y = 1;",
		"connect@;", "connect @x, y;", "connect(@);", "connect(x@);", "connect(x,@);", "connect(x, y@;", "connect(x, y@, z);", "connect(x, @1);", "connect(@der(x), y);", "connect(x @+ 1, y);", "connect(x, y)@= 1;",
		"for @;", "for @in", "for i @= 1", "for i in @i..2 do end;", "for i in @..2 do end;", "for i in 1@. 2 do end;", "for i in 1..@do end;", "for i in 1..@-2 do end;", "for i in 1..2 @end;", "for i in 1..2 do @var x; end;", "for i in 1..2 do @param k = 1; end;", "for i in 1..2 do @start x = 1; end;", "for i in 1..2 do @part p: A; end;", "for i in 1..2 do end @end;", "for i in @[1, 2] do end;", "for @1 in 1..2 do end;",
	} {
		checkMarked(t, "model A "+text, api.ErrToken)
		checkMarked(t, "model A var x; "+text+" end;", api.ErrToken)
	}
	for _, text := range []string{"x@", "x =@", "x = y@", "param k@", "var x[@", "part p:@", "part p: A(@", "start x in [@", "connect(@", "for i in 1..@", "for i in 1..2 do@", "for i in 1..2 do x = 1;@", "for i in 1..2 do end;@", "x = 1;@"} {
		checkMarked(t, "connector A "+text, api.ErrEnd)
	}
}

func TestWrongExpressionsByHand(t *testing.T) {
	for _, text := range []string{
		"x @y", "x +@", "x + @+ y", "@+ x", "@* x", "@/ x", "@^ 2", "x ^ @y", "x^2@^3", "x^@(2)", "x^-@-2", "x^@", "x^2 @3", "(@)", "(x@", "(x@]", "x@)", "x @(y)", "sin @x", "sin(@)", "sin(x@, y)", "sin(x@", "@do", "@end", "@model", "der @x", "der(@)", "der(@1)", "der(x @+ y)", "der(@(x))", "der(@time)", "time @x", "x.@1", "x.@", "x@..y", "x@..", "x[@]", "x[1@", "x[@-1]", "x[i@*2]", "x[i+@i]", "x[1@+i]", "x[i@.j]", "x[i@[1]]", "x[i+1@+1]", "x[@(1)]", "x[1]@[2]", "x[@time]", "1 @2", "1@.x", "1@(x)", "1@[1]", "-@", "- @* x", "time@(x)", "time@.x", "x.@time", "@,", "@;",
	} {
		checkMarked(t, "model A 0 = "+text, errorBehind(text, api.ErrToken))
		if !strings.HasSuffix(text, "@") {
			checkMarked(t, "model A y = 2; 0 = "+text+"; end;", api.ErrToken)
		}
	}
}

// errorBehind is ErrEnd of a text that ends at its mark.
func errorBehind(text string, e api.Errno) api.Errno {
	if strings.HasSuffix(text, "@") {
		return api.ErrEnd
	}
	return e
}

// Each of these is a number that the grammar lets by, and whose amount is wrong.
func TestWrongNumbersByHand(t *testing.T) {
	for _, text := range []string{
		"unit u = @0;", "unit u = @2;", "unit u = @1.5;", "unit u = m*@10;", "unit u = (@0.1);", "unit u = m^@65;", "unit u = m^-@65;", "unit u = m^@1.5;", "unit u = m^(@65/2);", "unit u = m^(-@65/65);", "unit u = m^(1/@65);", "unit u = m^(1/@0);", "unit u = m^(0/@0);", "unit u = m^(1/@0.5);", "unit u = m^(@1.5/2);", "unit u = m^(1/@1000000);", "unit u = @64;",
		"model A x = y^@65; end;", "model A x = y^-@65; end;", "model A x = y^@0.5; end;", "model A x = y^@1000000; end;", "model A x = y^-@1e18; end;",
		"model A var x[@1000001]; end;", "model A var x[@0.5]; end;", "model A flow x[@1e18]; end;", "model A part p[@1000000.5]: B; end;", "model A part p[@1e7]: B; end;", "model A x[@1.5] = 0; end;", "model A x[@1000001] = 0; end;", "model A x[i+@1.5] = 0; end;", "model A x[i-@1000001] = 0; end;", "model A for i in @1.5..2 do end; end;", "model A for i in @1000001..2 do end; end;", "model A for i in 1..@1000001 do end; end;", "model A for i in 1..@0.1 do end; end;",
		"unit u = m^@65 ] ] x", "unit u = @2",
	} {
		checkMarked(t, text, api.ErrNumber)
	}
	for _, text := range []string{
		"unit u = m^64;", "unit u = m^-64;", "unit u = m^0;", "unit u = m^(64/64);", "unit u = m^(0/1);", "unit u = m^(-64/1);", "model A x = y^64; end;", "model A x = y^-64; end;", "model A var x[1000000]; end;", "model A flow x[0]; end;", "model A part p[1e6]: B; end;", "model A x[1000000] = 0; end;", "model A x[0] = 0; end;", "model A x[i+1000000] = 0; end;", "model A for i in 1000000..0 do end; end;", "model A x = 1000001; end;", "model A x = 9223372036854775807; end;",
	} {
		if _, e, at := parse.Parse(text); e != api.OK || at != 0 {
			t.Errorf("%q: %d %d", text, e, at)
		}
	}
}

// A number's D must divide 10^18: it can't have more than 18 of the factor 2, or of 5.
func TestDivisors(t *testing.T) {
	five := map[int]string{18: "3814697265625", 19: "19073486328125", 20: "95367431640625"}
	two := map[int]string{18: "262144", 19: "524288", 27: "134217728"}
	for text, want := range map[string]api.Rat{
		"0.000000000000000001":   {N: 1, D: 1000000000000000000},
		"1e-18":                  {N: 1, D: 1000000000000000000},
		five[18] + "e-18":        {N: 1, D: 262144},
		two[18] + "e-18":         {N: 1, D: 3814697265625},
		"9223372036854775807e-9": {N: 9223372036854775807, D: 1000000000},
		"9.223372036854775807":   {N: 9223372036854775807, D: 1000000000000000000},
		"10e-19":                 {N: 1, D: 1000000000000000000},
	} {
		checkTree(t, "model A "+text+" = 0; end;", equation(api.Tree{Kind: api.ENum, Num: want}))
	}
	for _, text := range []string{five[19] + "e-19", five[20] + "e-20", five[19][:7] + "." + five[19][7:] + "e-12", two[19] + "e-19", two[27] + "e-27"} {
		checkMarked(t, "model A x = sin(@"+text+"); end;", api.ErrNumber)
		checkMarked(t, "model A var x[@"+text+"]; end;", api.ErrNumber)
		checkMarked(t, "unit u = @"+text+";", api.ErrNumber)
	}
	checkMarked(t, "model A x @"+five[19]+"e-19", api.ErrToken) // where no number stands
}

func TestStart(t *testing.T) {
	long := t0(api.EMul, t0(api.ENeg, id("k")), power(num(3, 2), 2))
	checkTree(t, "model A start x = -k*1.5^2; end;", fileOf(t0(api.IStart, id("x"), long, long)))
	checkTree(t, "model A start x in [-k*1.5^2, (-k)*(1.5^2)]; end;", fileOf(t0(api.IStart, id("x"), long, long)))
	checkTree(t, "model A start x in [2, -k*1.5^2]; end;", fileOf(t0(api.IStart, id("x"), num(2, 1), long)))
	checkMarked(t, "model A start x = (@); end;", api.ErrToken)
	checkMarked(t, "model A start x = ((1+2@; end;", api.ErrToken)
	checkMarked(t, "model A start x = 1^@65; y = (; end;", api.ErrNumber)
}

func ExampleParse() {
	tree, e, at := parse.Parse("unit m; unit v = m / s;")
	fmt.Println(len(tree.Kids), tree.Kids[1].Name, e, at)
	// Output: 2 v 0 0
}
