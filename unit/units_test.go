package unit_test

import (
	"fmt"
	"slices"
	"strings"
	"testing"

	"orrery/api"
	"orrery/parse"
	"orrery/unit"
)

func base(name string) api.Tree { return api.Tree{Kind: api.DUnit, Name: name} }

func derived(name string, t api.Tree) api.Tree {
	return api.Tree{Kind: api.DUnit, Name: name, Kids: []api.Tree{t}}
}

func file(kids ...api.Tree) api.Tree { return tree(api.DFile, kids...) }

func checkUnits(t *testing.T, f api.Tree, names []string, dims []api.Dim, e api.Errno) {
	t.Helper()
	gotNames, gotDims, gotErr := unit.Units(f)
	if gotErr != e || !slices.Equal(gotNames, names) || !slices.Equal(gotDims, dims) {
		t.Errorf("%v: %v %v %d, want %v %v %d", f, gotNames, gotDims, gotErr, names, dims, e)
	}
	gotNames, gotDims, gotErr = wantUnits(f)
	if gotErr != e || !slices.Equal(gotNames, names) || !slices.Equal(gotDims, dims) {
		t.Errorf("the oracle of %v: %v %v %d, want %v %v %d", f, gotNames, gotDims, gotErr, names, dims, e)
	}
}

func parsed(t *testing.T, text string) api.Tree {
	t.Helper()
	f, e, at := parse.Parse(text)
	if e != api.OK {
		t.Fatalf("%q: %d %d", text, e, at)
	}
	return f
}

// checkText asks for a file's units; each is told as its name, and those of its exponents that are not 0, with their places.
func checkText(t *testing.T, text, want string, e api.Errno) {
	t.Helper()
	names, dims, got := unit.Units(parsed(t, text))
	var told []string
	for i, name := range names {
		for j, x := range dims[i].E {
			if x != q(0, 1) {
				name += fmt.Sprint(" ", j, ":", x.N, "/", x.D)
			}
		}
		told = append(told, name)
	}
	if s := strings.Join(told, ", "); s != want || got != e {
		t.Errorf("%q: %q %d, want %q %d", text, s, got, want, e)
	}
}

func TestUnits(t *testing.T) {
	for text, want := range map[string]string{
		"":                                "",
		"model M var x; end;":             "",
		"unit m;":                         "m 0:1/1",
		"unit m; unit s;":                 "m 0:1/1, s 1:1/1",
		"unit m; unit s; unit v = m / s;": "m 0:1/1, s 1:1/1, v 0:1/1 1:-1/1",
		"unit m; unit a = m^2; unit s; unit p=1;":                      "m 0:1/1, a 0:2/1, s 1:1/1, p",
		"unit m; unit s; unit h = (m / s^2)^(1/2);":                    "m 0:1/1, s 1:1/1, h 0:1/2 1:-1/1",
		"unit m; unit a = m * m; unit b = a * a; unit c = b / a / m;":  "m 0:1/1, a 0:2/1, b 0:4/1, c 0:1/1",
		"unit m; model m var m: s; end; unit s; model v end;":          "m 0:1/1, s 1:1/1", // classes' names are others
		"model A var x: m; end; unit m; connector m flow f: z; end;":   "m 0:1/1",
		"unit p = 1; unit q = p^(-3/7) * (1 / p); unit m;":             "p, q, m 0:1/1",
		"unit a;unit b;unit c;unit d;unit e;unit f;unit g;":            "a 0:1/1, b 1:1/1, c 2:1/1, d 3:1/1, e 4:1/1, f 5:1/1, g 6:1/1",
		"unit a;unit b;unit c;unit d;unit e;unit f;unit g;unit h = g;": "a 0:1/1, b 1:1/1, c 2:1/1, d 3:1/1, e 4:1/1, f 5:1/1, g 6:1/1, h 6:1/1",
	} {
		checkText(t, text, want, api.OK)
	}
}

func TestUnitsErrors(t *testing.T) {
	seven := "unit a;unit b;unit c;unit d;unit e;unit f;unit g;"
	for text, e := range map[string]api.Errno{
		"unit m; unit m;":                              api.ErrTwice,
		"unit m; unit m = m;":                          api.ErrTwice,
		"unit m = 1; unit m;":                          api.ErrTwice,
		"unit m = 1; unit s; unit m = 1;":              api.ErrTwice,
		"unit m; unit m = x;":                          api.ErrTwice, // ahead of what it is written as
		seven + "unit a;":                              api.ErrTwice, // ahead of there being too many
		seven + "unit g;":                              api.ErrTwice,
		seven + "unit h;":                              api.ErrLong,
		seven + "unit h = 1; unit i = a; unit j;":      api.ErrLong,
		seven + "unit h; unit a;":                      api.ErrLong,
		"unit z = 1;" + seven + "unit h = x; unit i;":  api.ErrName,
		"unit m = m;":                                  api.ErrName,
		"unit v = m / s; unit m; unit s;":              api.ErrName,
		"unit m; unit v = m / s; unit s;":              api.ErrName,
		"unit m; unit v = m / s; unit m;":              api.ErrName,
		"unit m; unit m; unit v = s;":                  api.ErrTwice,
		"model m end; unit v = m;":                     api.ErrName,
		"unit m; unit v = x * 1; model A var y; end;":  api.ErrName,
		"unit m; " + powers("^64", 10) + "unit x = 1;": api.OK,
		"unit m; " + powers("^64", 11):                 api.ErrOver,
		"unit m; " + powers("^(1/64)", 11):             api.ErrOver,
		"unit m; " + powers("^64", 11) + "unit m;":     api.ErrOver,
		"unit m; unit m;" + powers("^64", 11):          api.ErrTwice,
	} {
		f := parsed(t, text)
		names, dims, got := unit.Units(f)
		if got != e || e != api.OK && (names != nil || dims != nil) {
			t.Errorf("%q: %v %v %d, want %d", text, names, dims, got, e)
		}
		if _, _, got := wantUnits(f); got != e {
			t.Errorf("the oracle of %q: %d, want %d", text, got, e)
		}
	}
}

// powers are units, each that power of the one ahead of it.
func powers(power string, n int) string {
	text := "unit u0 = m;"
	for i := range n {
		text += fmt.Sprintf("unit u%d = u%d%s;", i+1, i, power)
	}
	return text
}

// TestUnitsOfOtherTrees has files that are no file's: whichever error parse.Right tells.
func TestUnitsOfOtherTrees(t *testing.T) {
	deep := one()
	for range 28 {
		deep = pow(deep, 1, 1)
	}
	checkUnits(t, file(derived("u", pow(deep, 1, 1))), nil, nil, api.ErrTree)
	checkUnits(t, file(derived("u", deep)), nil, nil, api.ErrTree)
	checkUnits(t, file(derived("u", deep.Kids[0])), []string{"u"}, []api.Dim{plain()}, api.OK)
	if e := parse.Right(file(derived("u", deep))); e != api.ErrDeep {
		t.Error(e)
	}
	ring := []api.Tree{base("m"), {}}
	ring[1] = derived("u", tree(api.UMul, ring...))
	for _, tr := range []api.Tree{
		{}, base("m"), one(), name("m"), {Kind: api.DFile, Name: "m"}, {Kind: api.DFile, N: 1},
		file(one()), file(tree(api.DType)), file(base("")), file(base("2")), file(base("der")), file(base("m m")), file(base(strings.Repeat("m", 25))),
		file(base("m"), file()), file(base("m"), base("m"), base("")), // ahead of ErrTwice
		file(tree(api.DUnit, one())), file(derived("u", tree(api.ENum))), file(derived("u", tree(api.UMul, one()))), file(derived("u", name(""))),
		file(derived("u", pow(one(), 65, 1))), file(derived("u", pow(one(), 1, 65))), file(derived("u", pow(one(), 0, 0))), file(derived("u", pow(one(), 2, 2))),
		file(api.Tree{Kind: api.DUnit, Name: "u", Kids: []api.Tree{one(), one()}}), file(api.Tree{Kind: api.DUnit, Name: "u", N: 1}),
		file(derived("u", name("x")), api.Tree{Kind: api.DClass, Name: "A"}), file(ring...),
	} {
		checkUnits(t, tr, nil, nil, api.ErrTree)
	}
	checkUnits(t, file(base(strings.Repeat("m", 24))), []string{strings.Repeat("m", 24)}, []api.Dim{dim(1)}, api.OK)
	many := func(n int) api.Tree { // so many nodes
		f := file()
		for i := range n/2 - 1 {
			f.Kids = append(f.Kids, derived(fmt.Sprint("u", i), one()))
		}
		if n%2 == 0 {
			f.Kids = append(f.Kids, base("m"))
		}
		return f
	}
	if names, dims, e := unit.Units(many(4000)); e != api.OK || len(names) != 2000 || len(dims) != 2000 || dims[1999] != dim(1) || names[1998] != "u1998" {
		t.Error(len(names), len(dims), e)
	}
	checkUnits(t, many(4002), nil, nil, api.ErrTree)
}

func TestUnitsByChance(t *testing.T) {
	d := draw(3)
	told := map[api.Errno]int{}
	for range 8000 {
		f := d.unitFile()
		names, dims, e := unit.Units(f)
		wantNames, wantDims, want := wantUnits(f)
		if e != want || !slices.Equal(names, wantNames) || !slices.Equal(dims, wantDims) {
			t.Fatalf("%v: %v %v %d, want %v %v %d", f, names, dims, e, wantNames, wantDims, want)
		}
		told[e]++
	}
	for _, e := range []api.Errno{api.OK, api.ErrLong, api.ErrOver, api.ErrTree, api.ErrName, api.ErrTwice} {
		if told[e] < 100 {
			t.Error(told)
		}
	}
}

// unitFile is mostly a file's.
func (d drawn) unitFile() api.Tree {
	f := file()
	var names []string
	known := func() api.Tree {
		if len(names) == 0 || d.Intn(40) == 0 {
			return pick(d, one(), one(), one(), one(), name("x"))
		}
		return name(pick(d, names[len(names)-1], pick(d, names...)))
	}
	if d.Intn(2) == 0 { // a unit with hardly any room above it
		f.Kids, names = append(f.Kids, base("v")), append(names, "v")
		for i := range 10 {
			s := fmt.Sprint("v", i)
			f.Kids, names = append(f.Kids, derived(s, pow(name(names[i]), 64, 1))), append(names, s)
		}
	}
	for i := range d.Intn(20) {
		s := fmt.Sprint("u", i)
		if d.Intn(60) == 0 && len(names) > 0 {
			s = pick(d, names...)
		}
		dimension := known()
		for range d.Intn(4) {
			switch min(2, d.Intn(5)) {
			case 0:
				dimension = mul(dimension, known())
			case 1:
				dimension = div(known(), dimension)
			case 2:
				dimension = pow(dimension, pick[int64](d, 3, -1, 64, 63, 64), 1)
				dimension.Num.D = pick[int64](d, 1, 1, 1, 61)
				if d.Intn(100) == 0 {
					dimension.Num = pick(d, q(65, 1), q(2, 2), q(1, 0), q(1, 65))
				}
			}
		}
		switch d.Intn(3) {
		case 0:
			f.Kids = append(f.Kids, base(s))
		case 1:
			f.Kids = append(f.Kids, derived(s, dimension))
		case 2:
			f.Kids = append(f.Kids, derived(s, dimension), api.Tree{Kind: api.DClass, Name: pick(d, s, "x"), N: 1})
		}
		names = append(names, s)
	}
	return f
}
