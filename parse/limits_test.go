package parse_test

import (
	"strings"
	"testing"

	"orrery/api"
	"orrery/parse"
)

// opener is something that opens, and how it is closed again.
type opener struct{ open, close string }

func openers() map[byte]opener {
	return map[byte]opener{'(': {"(", ")"}, '-': {"-", ""}, 's': {"sin(", ")"}, 'f': {"for i in 1..2 do ", " end;"}}
}

// nested puts these, by their letters, around a text; it tells where each of them opens.
func nested(letters, inner string) (string, []int) {
	text, behind := "", ""
	var at []int
	for i := range len(letters) {
		o := openers()[letters[i]]
		at = append(at, len(text)+strings.IndexAny(o.open, "(-f"))
		text += o.open
		behind = o.close + behind
	}
	return text + inner + behind, at
}

// checkOpen asks of a text whose openers stand at these places (behind those ahead): with 61 and more the 61st is too many; with 60 none of them is, though the tree may be too deep.
func checkOpen(t *testing.T, text string, ahead int, at []int) {
	t.Helper()
	_, e, place := parse.Parse(text)
	if ahead+len(at) > 60 {
		if want := at[60-ahead]; e != api.ErrDeep || place != want {
			t.Errorf("%q: %d %d, not %d", text, e, place, want)
		}
		return
	}
	if place != 0 || e != api.OK && e != api.ErrDeep {
		t.Errorf("%q: %d %d", text, e, place)
	}
}

func TestOpenExpressions(t *testing.T) {
	head := "model A x = "
	for _, mix := range []string{"(", "-", "s", "(-", "-(", "s(-", "--s", "-s(("} {
		for n := 55; n < 70; n++ {
			letters := strings.Repeat(mix, n)[:n]
			text, at := nested(letters, "y")
			for i := range at {
				at[i] += len(head)
			}
			checkOpen(t, head+text+"; end;", 0, at)
		}
	}
}

func TestOpenLoops(t *testing.T) {
	head := "model A "
	for n := 55; n < 65; n++ {
		loops, at := nested(strings.Repeat("f", n), "")
		for i := range at {
			at[i] += len(head)
		}
		checkOpen(t, head+loops+" end;", 0, at)
	}
	for loops := 0; loops <= 55; loops += 5 {
		for n := 58; n < 63; n++ {
			inner, _ := nested(strings.Repeat("-(", n)[:n-loops], "y")
			text, _ := nested(strings.Repeat("f", loops), "x = "+inner+";")
			from := len(head) + loops*len("for i in 1..2 do ") + len("x = ")
			_, at := nested(strings.Repeat("-(", n)[:n-loops], "y")
			for i := range at {
				at[i] += from
			}
			checkOpen(t, head+text+" end;", loops, at)
		}
	}
}

// Parentheses of der, connect and functions count as all others do. At the mark so many are open, and ahead of it never more.
func TestOpenOfEachSort(t *testing.T) {
	for text, open := range map[string]int{
		"connect@(x, y);":                   0,
		"der@(x) = 1;":                      0,
		"x = sqrt@(1);":                     0,
		"x = (@(1));":                       1,
		"x = @-1;":                          0,
		"x = 1 - @-1;":                      0,
		"x = 2 * -@-1;":                     1,
		"-x[i-1]^-2 * y^-1 - z = -@-1;":     1,
		"-(1) * ((@(1))) = 0;":              2,
		"x = -@(1);":                        1,
		"@for j in 1..2 do end;":            0,
		"x = -1 + -1 + -(1 - 2) + --@-1;":   2,
		"x = -y + (@(y));":                  1,
		"x = -y^2 / (@(y));":                1,
		"(x) * (y) * sin(z) = (@(1));":      1,
		"for j in 1..2 do end; -@-x = 1;":   1,
		"-x = -@-1;":                        1,
		"-sin(-(x)) * ((((@(1))))) = 0;":    4,
		"connect(x, y); x = (@(y));":        1,
		"(-x) * -y[i-1] = -(@(1));":         2,
		"-((x)) = 1; (der(x)) = (-(@(1)));": 3,
	} {
		checkMarked(t, "model A "+repeated("for i in 1..2 do", 60-open)+text, api.ErrDeep)
		stands := strings.Replace(text, "@", "", 1) // with one less, but the tree is too deep
		checkStop(t, "model A "+repeated("for i in 1..2 do", 59-open)+stands+repeated("end;", 60-open), api.ErrDeep, 0)
	}
}

func TestOpenDimensionsAndParts(t *testing.T) {
	nest := func(n int, inner string) string {
		return strings.Repeat("(", n) + inner + strings.Repeat(")", n)
	}
	checkTree(t, "unit u = "+nest(60, "m")+";", t0(api.DFile, named(api.DUnit, "u", named(api.UName, "m"))))
	checkStop(t, "unit u = "+nest(61, "m")+";", api.ErrDeep, 9+60)
	checkTree(t, "unit u = "+nest(59, "m^(1/2)")+";", t0(api.DFile, named(api.DUnit, "u", upower(named(api.UName, "m"), 1, 2))))
	checkStop(t, "unit u = "+nest(60, "m^(1/2)")+";", api.ErrDeep, 9+60+2)
	checkTree(t, "unit u = "+nest(60, "m")+"*"+nest(60, "m")+"^(1/2);", t0(api.DFile, named(api.DUnit, "u", t0(api.UMul, named(api.UName, "m"), upower(named(api.UName, "m"), 1, 2)))))
	checkTree(t, "model A part p: B(k = "+nest(59, "1")+", j = "+nest(59, "1")+"); end;", fileOf(part("p", 0, "B", named(api.IMod, "k", num(1, 1)), named(api.IMod, "j", num(1, 1)))))
	checkStop(t, "model A part p: B(k = "+nest(59, "1")+", j = "+nest(60, "1")+"); end;", api.ErrDeep, 22+59+1+59+6+59)
	checkTree(t, "model A start x = "+nest(60, "1")+"; end;", fileOf(t0(api.IStart, id("x"), num(1, 1), num(1, 1))))
	checkTree(t, "model A start x in ["+nest(60, "1")+", "+nest(60, "1")+"]; end;", fileOf(t0(api.IStart, id("x"), num(1, 1), num(1, 1))))
}

// However many are open one behind the other, it is those at once that count.
func TestManyThatAreClosed(t *testing.T) {
	for _, text := range []string{"(x) = 1;", "-x = 1;", "-(-x) = 1;", "connect(x, y);", "for i in 1..2 do end;", "der(x) = sin(1);", "part p: A(k = (1));", "start x = -(1);", "var x: (m)^(1/2);", "param k: (m) = 1;"} {
		if _, e, at := parse.Parse("model A " + repeated(text, 150) + "end;"); e != api.OK || at != 0 {
			t.Errorf("%q: %d %d", text, e, at)
		}
	}
}

// deepExpression is n nodes within one another.
func deepExpression(n int, wrap func(t api.Tree) api.Tree) api.Tree {
	t := num(1, 1)
	for range n - 1 {
		t = wrap(t)
	}
	return t
}

func TestDepth(t *testing.T) {
	one := num(1, 1)
	wraps := map[string]func(t api.Tree) api.Tree{
		"neg":   func(t api.Tree) api.Tree { return t0(api.ENeg, t) },
		"left":  func(t api.Tree) api.Tree { return t0(api.EAdd, t, one) },
		"right": func(t api.Tree) api.Tree { return t0(api.EDiv, one, t) },
		"power": func(t api.Tree) api.Tree { return power(t, 2) },
		"call":  func(t api.Tree) api.Tree { return call(api.TCos, t) },
	}
	for name, wrap := range wraps {
		for n := 25; n < 32; n++ {
			tree := equation(deepExpression(n, wrap)) // within a file, a class and an equation
			text := written(tree)
			want := api.OK
			if n+3 > api.MaxDepth {
				want = api.ErrDeep
			}
			if e := parse.Right(tree); e != want {
				t.Errorf("%s: Right of %d: %d", name, n+3, e)
			}
			if got, e := parse.Print(tree); e != want || e == api.OK && got != text || e != api.OK && got != "" {
				t.Errorf("%s: Print of %d: %q %d", name, n+3, got, e)
			}
			if want == api.OK {
				checkTree(t, text, tree)
			} else {
				checkStop(t, text, want, 0)
			}
		}
	}
}

func TestDepthOfOtherRules(t *testing.T) {
	loops := func(n int, inner string) string {
		return "model A " + repeated("for i in 1..2 do", n) + inner + repeated(" end;", n) + "end;"
	}
	dims := func(n int) string { return "unit u = 1" + strings.Repeat("*m", n) + ";" }
	for _, x := range []struct {
		text   string
		levels int
	}{
		{loops(27, ""), 29}, {loops(28, ""), 30}, {loops(29, ""), 31}, {loops(58, ""), 60},
		{loops(26, "1 = 1;"), 30}, {loops(27, "1 = 1;"), 31},
		{loops(25, "x = 1;"), 30}, {loops(26, "x = 1;"), 31},
		{loops(24, "x[1] = 1;"), 30}, {loops(25, "1 = x[2];"), 31},
		{loops(23, "x[i] = 1;"), 30}, {loops(24, "x[i] = 1;"), 31}, {loops(22, "x[i+1] = 1;"), 30}, {loops(23, "x[i-1] = 1;"), 31},
		{loops(25, "connect(x, x);"), 30}, {loops(26, "connect(x, x);"), 31},
		{dims(27), 30}, {dims(28), 31}, {dims(1900), 1903},
		{"model A x = 1" + strings.Repeat("+1", 26) + "; end;", 30}, {"model A x = 1" + strings.Repeat("-1", 27) + "; end;", 31}, {"model A x = 1" + strings.Repeat("*1", 1900) + "; end;", 1904},
		{"model A start x = 1" + strings.Repeat("+1", 1900) + "; end;", 1904},
	} {
		want := api.OK
		if x.levels > api.MaxDepth {
			want = api.ErrDeep
		}
		got, e, at := parse.Parse(x.text)
		if e != want || at != 0 || e == api.OK && levels(got) != x.levels || e != api.OK && !equal(got, api.Tree{}) {
			t.Errorf("%q: %d %d", x.text, e, at)
		}
	}
}

// A class of 2 nodes, and 5 for each equation of two names.
func TestNodes(t *testing.T) {
	head := "model A " + repeated("x=y;", 799)
	file, e, at := parse.Parse(head + "1=2; end;")
	if e != api.OK || at != 0 || nodes(file) != api.MaxTokens || parse.Right(file) != api.OK {
		t.Error(e, at, nodes(file))
	}
	checkStop(t, head+"x=2; end;", api.ErrLong, 0)
	checkStop(t, "model A "+repeated("x=y;", 998)+"end;", api.ErrLong, 0)
	checkMarked(t, "model A "+repeated("x=y;", 998)+"@;", api.ErrToken)             // what is wrong with a token comes first
	checkStop(t, head+"x=2; y=1"+strings.Repeat("+1", 28)+"; end;", api.ErrDeep, 0) // ErrDeep comes ahead of ErrLong
}

// An expression of a start is counted twice: `start x = y;` is 7 nodes.
func TestNodesOfStarts(t *testing.T) {
	head := "model A " + repeated("start x = y;", 570)
	file, e, at := parse.Parse(head + "x = 1; 1 = 1; end; unit m;")
	if e != api.OK || at != 0 || nodes(file) != api.MaxTokens {
		t.Error(e, at, nodes(file))
	}
	checkStop(t, head+"x = 1; x = 1; end; unit m;", api.ErrLong, 0)
	checkStop(t, head+"start x = 1; var x; 1 = 1; end;", api.ErrLong, 0)
}

func TestNodesOfRight(t *testing.T) {
	units := func(n int) api.Tree {
		file := t0(api.DFile)
		for range n {
			file.Kids = append(file.Kids, named(api.DUnit, "m"))
		}
		return file
	}
	if e := parse.Right(units(api.MaxTokens - 1)); e != api.OK {
		t.Error(e)
	}
	if e := parse.Right(units(api.MaxTokens)); e != api.ErrTree {
		t.Error(e)
	}
	long := units(2 * api.MaxTokens)
	if e := parse.Right(long); e != api.ErrTree {
		t.Error(e)
	}
	long.Kids = append(long.Kids, equation(deepExpression(40, func(t api.Tree) api.Tree { return t0(api.ENeg, t) })).Kids...)
	if e := parse.Right(long); e != api.ErrDeep {
		t.Error(e)
	}
	if text, e := parse.Print(long); text != "" || e != api.ErrDeep {
		t.Error(text, e)
	}
}
