package check_test

import (
	"fmt"
	"strings"
	"testing"

	"orrery/api"
	"orrery/check"
)

// The rows of the chapter's examples.
func TestExamples(t *testing.T) {
	checkTexts(t, map[string]said{
		"model A var x; x = 1; end;":                              {api.OK, ""},
		"model A part p: B; end;":                                 {api.ErrName, "A"},
		"connector P flow i; end; model A part p: P(k = 1); end;": {api.ErrName, "A"},
		"model A param k = j; param j = 1; end;":                  {api.ErrName, "A"},
		"model A param k = time; end;":                            {api.ErrClass, "A"},
		"model A part b: B; end; model B part a: A; end;":         {api.ErrCycle, "A"},
		"model A flow i; end;":                                    {api.ErrClass, "A"},
	})
}

func TestFilesThatStand(t *testing.T) {
	for _, text := range []string{
		"", "unit m;", "model A end;", "connector P end;", "model A end; connector P end;",
		"connector P var e; flow f; end; model R part p: P; p.e = 2 * p.f; end; model M part a: R; part b: R; connect(a.p, b.p); end;",
		"unit m; unit s; model M var x: m; der(x) = 1; start x = 0; end;", // that units fit in rules is asked for elsewhere
		"model A x = 1; end;", // names in rules, too
		"model A connect(a, b.c); for i in 1..2 do x[j] = y[i].z; connect(a[i], b); end; end;",
		"model A param k = 2; var x[2]; for i in 1..2 do x[i] = k * i; end; end;",
		"model A var A; part B: B; end; model B var B; end;", // classes' and items' names are others
		"unit A; unit x; model A var x: x; param A: A = 1; end; model x end;",
	} {
		checkText(t, text, api.OK, "")
	}
}

func TestTreesThatAreNoFiles(t *testing.T) {
	wrong := model("A", variable("x", 0, true))
	deep := number(1)
	for range 26 {
		deep = tree(api.ENeg, deep)
	}
	checkTree(t, file(model("A", parameter("k", deep))), api.OK, "")
	checkTree(t, file(model("A", parameter("k", tree(api.ENeg, deep)))), api.ErrDeep, "")
	checkTree(t, file(wrong, model("B", parameter("k", tree(api.ENeg, deep)), tree(api.ENum))), api.ErrDeep, "")
	for _, tr := range []api.Tree{
		{}, {Kind: api.DFile, Name: "A"}, {Kind: -1}, wrong, number(1), tree(api.DType), file(file()), file(number(1)), file(wrong, wrong, number(1)),
		file(named(api.DUnit, "m"), named(api.DUnit, "m"), tree(api.DUnit)), // ahead of what Units tells
		file(wrong, wrong, model("")), file(model("A", tree(api.IParam))), file(model("A", tree(api.IVar))), file(model("A", tree(api.IStart))),
		file(model("A", named(api.IParam, "k", tree(api.DType)))), file(model("A", tree(api.IEquation))), file(model("A", tree(api.IConnect, number(1), number(1)))),
		file(model("A", part("p", ""))), file(model("A", named(api.IMod, "k", number(1)))), file(model("A", loop("i", -1, 2))), file(model("A", variable("x", -1, false))),
		file(model("A", part("p", "A", parameter("k", number(1))))), file(model("A", loop("i", 1, 2, variable("x", 0, false)))), file(model("A", loop("i", 1, 2, part("x", "A")))),
		file(api.Tree{Kind: api.DClass, Name: "A", N: 0}), file(api.Tree{Kind: api.DClass, Name: "A", N: 3}), file(model("A", parameter("k", number(-1)))),
		file(model("A", parameter("k", tree(api.ERef)))), file(model("A", parameter("k", named(api.EPart, "k")))), file(model("A", tree(api.IStart, ref("x"), number(1)))),
	} {
		checkTree(t, tr, api.ErrTree, "")
	}
	ring := []api.Tree{model("A"), {}}
	ring[1] = model("B", ring...)
	if e, name := check.Check(file(ring...)); e != api.ErrDeep || name != "" {
		t.Error(e, name)
	}
	many := file(model("A"))
	for i := range 3998 {
		many.Kids[0].Kids = append(many.Kids[0].Kids, part(fmt.Sprint("p", i), "B"))
	}
	checkTree(t, many, api.ErrName, "A")
	many.Kids = append(many.Kids, model("A"))
	checkTree(t, many, api.ErrTree, "")
}

func TestErrorsOfUnits(t *testing.T) {
	bases := "unit a;unit b;unit c;unit d;unit e;unit f;unit g;"
	wrong := "model A flow i; end; model A flow i; end;"
	for text, e := range map[string]api.Errno{
		"unit m; unit m;":         api.ErrTwice,
		"unit m = x;":             api.ErrName,
		"unit v = m; unit m;":     api.ErrName,
		bases + "unit h;":         api.ErrLong,
		powers("u", 11) + wrong:   api.ErrOver,
		"unit m; unit m;" + wrong: api.ErrTwice,
		wrong + "unit m; unit m;": api.ErrTwice,
		"model A end; unit m = x; model A end;" + classesOf(40): api.ErrName,
		classesOf(41) + bases + "unit h;":                       api.ErrLong,
	} {
		checkText(t, text, e, "")
	}
	checkText(t, bases+"unit h = g; model A var x: h; end;", api.OK, "")
}

// powers are units: one, and so many of which each is the 64th power of the one ahead.
func powers(name string, n int) string {
	text := "unit " + name + ";"
	for i := range n {
		text += fmt.Sprintf("unit %s%d = %s^64;", name, i, strings.TrimSuffix(fmt.Sprint(name, i-1), "-1"))
	}
	return text
}

// classesOf are so many empty ones.
func classesOf(n int) string {
	text := ""
	for i := range n {
		text += fmt.Sprintf("%s C%d end;\n", []string{"model", "connector"}[i%2], i)
	}
	return text
}

// Units are no classes.
func TestManyClasses(t *testing.T) {
	units := "unit m; unit s; unit v = m / s;" + powers("u", 10)
	checkText(t, classesOf(40), api.OK, "")
	checkText(t, units+classesOf(40)+"unit a = v;", api.OK, "")
	checkText(t, classesOf(41), api.ErrLong, "")
	checkText(t, units+classesOf(41), api.ErrLong, "")
	checkText(t, classesOf(39)+"model C0 end;", api.ErrTwice, "C0")
	checkText(t, classesOf(40)+"model C0 end;", api.ErrLong, "")
	checkText(t, classesOf(39)+"model A flow i; end;", api.ErrClass, "A")
	checkText(t, "model A flow i; end;"+classesOf(40), api.ErrLong, "")
	checkText(t, "model A part a: A; end;"+classesOf(40), api.ErrLong, "")
	checkText(t, classesOf(200), api.ErrLong, "")
}

func TestClassesOfOneName(t *testing.T) {
	checkTexts(t, map[string]said{
		"model A end; model A end;":                                               {api.ErrTwice, "A"},
		"model A end; connector A end;":                                           {api.ErrTwice, "A"},
		"connector A end; connector B end; connector A end;":                      {api.ErrTwice, "A"},
		"model A end; model B end; model B end; model A end;":                     {api.ErrTwice, "B"}, // the first that has one ahead
		"model A end; model B end; model A end; model B end;":                     {api.ErrTwice, "A"},
		"model A end; model A end; model A end;":                                  {api.ErrTwice, "A"},
		"model A end; model a end;":                                               {api.OK, ""},
		"unit A; model A end;":                                                    {api.OK, ""},
		"model A flow i; end; model B end; model B end;":                          {api.ErrTwice, "B"}, // ahead of all classes' items
		"model A part a: A; end; model B end; model B end;":                       {api.ErrTwice, "B"},
		"model B end; model A part p: C; end; unit m; model B var x; var x; end;": {api.ErrTwice, "B"},
	})
}

// Errors of items, class by class and item by item; of each the class's name.
func TestWhichIsFirst(t *testing.T) {
	wrongs := map[string]api.Errno{
		"flow i;":                   api.ErrClass,
		"param x = time;":           api.ErrClass,
		"param y = 1; param y = 1;": api.ErrTwice,
		"var z[17];":                api.ErrLong,
		"for i in 0..16 do end;":    api.ErrLong,
		"var z: big^64;":            api.ErrOver,
		"var z: kg;":                api.ErrName,
		"start u in [1, u];":        api.ErrName,
		"part q: Z;":                api.ErrName,
		"part r: G(k = 1, k = 2);":  api.ErrTwice,
		"part r: G(k = 1, j = 2);":  api.ErrName,
		"part r: G(k = sin(1));":    api.ErrClass,
	}
	good := []string{"", "var g1;", "part g2[2]: G(k = 2);", "g3 = 1;", "start g4 = 1;", "for i in 1..2 do end;", "param g5 = 1;"}
	head := powers("u", 10) + "unit big = u9; model G param k = 1; end;"
	for first, e := range wrongs {
		for second, other := range wrongs {
			apart := strings.NewReplacer("x", "x2", "y", "y2", "z", "z2", "i;", "i2;", "q", "q2", "r:", "r2:").Replace(second)
			for _, between := range good {
				checkText(t, head+"model A "+between+first+" end;", e, "A")
				checkText(t, head+"model A "+first+between+apart+" end;", e, "A")
				checkText(t, head+"model B "+first+" end; model H "+between+" end; model A "+second+" end;", e, "B")
				checkText(t, head+"model B "+second+" end; model H "+between+" end; model A "+first+" end;", other, "B")
			}
		}
		checkText(t, head+"model A part b: B; end; model B part a: A;"+first+" end;", e, "B") // ahead of ErrCycle
		checkText(t, head+"model A part a: A; end; model B "+first+" end;", e, "B")
		checkText(t, head+"model A "+first+" end; model B part b: B; end;", e, "A")
	}
}
