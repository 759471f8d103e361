package flatten_test

import (
	"slices"
	"testing"
	"time"

	"orrery/api"
	"orrery/flatten"
)

// just asks of trees by how many of something they have: most may be, and one more may not. Both must be told in a short time.
func just(t *testing.T, most int, made func(n int) api.Tree, count func(f api.Flat) int) {
	t.Helper()
	begun := time.Now()
	f, e := flatTree(t, made(most))
	if e != api.OK || count(f) != most {
		t.Errorf("%d: %d, with %d", most, e, count(f))
	}
	for _, n := range []int{most + 1, most + 2} {
		if _, e := flatTree(t, made(n)); e != api.ErrLong {
			t.Errorf("%d: %d", n, e)
		}
	}
	if d := time.Since(begun); d > 20*time.Second {
		t.Error(d)
	}
}

func vars(f api.Flat) int  { return len(f.Vars) }
func nodes(f api.Flat) int { return len(f.Nodes) }
func eqs(f api.Flat) int   { return len(f.Eqs) }

// many are items, so many of them, with names that are told by numbers.
func many(n int, made func(name string) api.Tree) []api.Tree {
	var list []api.Tree
	for i := range n {
		list = append(list, made("n"+string(rune('a'+i/26))+string(rune('a'+i%26))))
	}
	return list
}

func TestMostVariables(t *testing.T) {
	just(t, 64, func(n int) api.Tree {
		return file(model("A", many(n, func(name string) api.Tree { return variable(name, 0, false) })...))
	}, vars)
	just(t, 64, func(n int) api.Tree {
		return file(model("A", variable("x", 16, false), variable("y", 16, false), variable("z", 16, false), variable("u", n-48-8, false), variable("v", 8, false)))
	}, vars)
	just(t, 64, func(n int) api.Tree { // in parts, some of which have none
		return file(model("B", variable("x", 15, false), part("c", 0, "C")), model("C"), model("A", part("b", 4, "B"), part("c", 9, "C"), variable("y", n-60, false)))
	}, vars)
	just(t, 64, func(n int) api.Tree {
		return file(connector("P", many(16, func(name string) api.Tree { return variable(name, 0, false) })...), model("A", variable("y", n-63, false), part("p", 3, "P"), variable("z", 15, false)))
	}, vars)
}

// What would be more is told as soon as it is met, ahead of what is behind.
func TestVariablesFirst(t *testing.T) {
	x := "var x[16]; var y[16]; var z[16]; var u[16]; "
	flatTexts(t, map[string]any{
		"model A " + x + "part b: B(k = 1 / 0); end; model B param k = 1; end; model A2 part a: A; end;":        api.ErrPivot,
		"model A " + x + "var v; part b: B(k = 1 / 0); end; model B param k = 1; end; model A2 part a: A; end;": api.ErrLong,
		"model A " + x + "part b: B(k = 1 / 0); var v; end; model B param k = 1; end; model A2 part a: A; end;": api.ErrPivot,
		"model A " + x + "var v; w = 1; end;":                                   api.ErrLong,
		"model A w = 1; " + x + "var v; end;":                                   api.ErrLong,
		"model A param k = 1 / 0; " + x + "var v; end;":                         api.ErrPivot,
		"model A " + x + "var v; param k = 1 / 0; end;":                         api.ErrPivot,
		"model B var v; param k = 1 / 0; end; model A " + x + "part b: B; end;": api.ErrPivot,
		"model B var v; end; model A " + x + "part b: B; part c: C; end; model C param k = 1 / 0; end; model D part a: A; end;": api.ErrLong,
	})
}

// instances has n of them in all, the main one counted.
func instances(n int) api.Tree {
	n -= 1 + 11*17 // of eleven parts with 16 within each
	main := model("A", many(11, func(name string) api.Tree { return part(name, 0, "B") })...)
	main.Kids = append(main.Kids, part("x", n, "C"))
	return file(model("B", part("c", 15, "C"), part("p", 0, "P")), model("C"), connector("P", variable("e", 0, false)), main)
}

func TestMostInstances(t *testing.T) {
	just(t, 200, instances, func(f api.Flat) int { return len(f.Vars)/11*200 + len(f.Vars)%11 })
	for n, e := range map[int]api.Errno{199: api.OK, 200: api.OK, 201: api.ErrLong} {
		f := file(model("C"), model("B", many(n-1, func(name string) api.Tree { return part(name, 0, "C") })...))
		if _, got := flatTree(t, f); got != e {
			t.Error(n, got)
		}
	}
}

// Modifiers' numbers are told ahead of an instance, its parameters' behind that.
func TestInstancesFirst(t *testing.T) {
	zero := tree(api.EDiv, number(1), number(0))
	for i, row := range []struct {
		n    int
		mods []api.Tree
		k    api.Tree
		e    api.Errno
	}{
		{199, nil, number(1), api.OK},
		{199, nil, zero, api.ErrPivot},
		{199, []api.Tree{named(api.IMod, "k", zero)}, number(1), api.ErrPivot},
		{200, nil, number(1), api.ErrLong},
		{200, nil, zero, api.ErrLong},
		{200, []api.Tree{named(api.IMod, "k", zero)}, number(1), api.ErrPivot},
		{200, []api.Tree{named(api.IMod, "k", number(2))}, zero, api.ErrLong},
	} {
		f := instances(row.n)
		main := &f.Kids[len(f.Kids)-1]
		main.Kids = append(main.Kids, part("last", 0, "D", row.mods...))
		f.Kids = append([]api.Tree{model("D", parameter("k", row.k))}, f.Kids...)
		if _, e := flatTree(t, f); e != row.e {
			t.Error(i, e)
		}
	}
}

func TestMostEquations(t *testing.T) {
	x := ref("x")
	just(t, 64, func(n int) api.Tree {
		return file(model("A", append(slices.Repeat([]api.Tree{equation(x, x)}, n), variable("x", 0, false))...))
	}, eqs)
	just(t, 64, func(n int) api.Tree {
		return file(model("A", variable("x", 0, false), loop("i", 1, 16, slices.Repeat([]api.Tree{equation(x, x)}, 3)...), loop("i", 1, n-48-4, equation(x, x)), loop("i", 1, 4, equation(x, x))))
	}, eqs)
	just(t, 64, func(n int) api.Tree { // in parts
		return file(model("B", variable("x", 0, false), equation(x, x), equation(x, x)), model("A", part("b", 16, "B"), part("c", 15, "B"), part("d", 0, "B"), loop("i", 1, n-64, equation(ref("d", "x"), number(1)))))
	}, eqs)
	p := connector("P", variable("e", 0, false), variable("f", 0, true))
	just(t, 64, func(n int) api.Tree { // some of sets, of levels and of flows, and of what is not connected
		join := tree(api.IConnect, ref("a", "p"), ref("b", "p"))
		return file(p, model("B", part("p", 0, "P")), model("A", part("a", 0, "B"), part("b", 0, "B"), part("c", 4, "B"), loop("i", 1, 16, slices.Repeat([]api.Tree{equation(number(0), number(0))}, 3)...), loop("i", 1, n-48-6, equation(number(0), number(0))), join))
	}, eqs)
}

// The last of 64 equations, and the one that would be more, is of each kind that there is.
func TestLastEquation(t *testing.T) {
	c := "connector P var e; flow f; end; model R part p: P; end; "
	for text, left := range map[string]int{
		"model A ":                                        64,
		"model A part r: R; ":                             63,
		"model A part p: P; connect(p, p); ":              63,
		"model A part r: R; part p: P; connect(p, r.p); ": 62,
		"model A part r[3]: R; connect(r[1].p, r[3].p); ": 61,
		"connector E var e; end; model S part e: E; end; model A part r[3]: S; connect(r[1].e, r[3].e); connect(r[1].e, r[2].e);": 62,
	} {
		for n, e := range map[int]api.Errno{left: api.OK, left + 1: api.ErrLong} {
			f := parsed(t, c+text+"end;")
			main := &f.Kids[len(f.Kids)-1]
			main.Kids = append(main.Kids, slices.Repeat([]api.Tree{equation(number(0), number(0))}, n)...)
			if _, got := flatTree(t, f); got != e {
				t.Errorf("%s and %d: %d", text, n, got)
			}
		}
	}
}

// expression has just n nodes.
func expression(n int) api.Tree {
	switch n {
	case 1:
		return number(0)
	case 2:
		return tree(api.ENeg, number(0))
	}
	return tree(api.EAdd, expression((n-1)/2), expression(n-1-(n-1)/2))
}

// withNodes has main items ahead, which make some nodes themselves, and n nodes of equations, all with constants.
func withNodes(n int, items ...api.Tree) api.Tree {
	rules := []api.Tree{loop("i", 1, 16, equation(expression(121), expression(100)))} // 222 each
	n -= 16 * 222
	rules = append(rules, equation(expression(1), expression(n-2)))
	return file(connector("P", variable("e", 0, false), variable("f", 0, true)), model("R", part("p", 0, "P")), model("A", append(rules, items...)...))
}

func TestMostNodes(t *testing.T) {
	just(t, 4000, func(n int) api.Tree { return withNodes(n) }, nodes)
	x, k := variable("x", 0, false), parameter("k", number(2))
	sets := []api.Tree{part("p", 0, "P"), part("r", 0, "R"), tree(api.IConnect, ref("p"), ref("r", "p"))}
	for name, row := range map[string]struct {
		nodes int
		items []api.Tree
	}{
		"variable":   {3, []api.Tree{x, equation(ref("x"), number(1))}},
		"parameter":  {3, []api.Tree{k, equation(number(1), ref("k"))}},
		"derivative": {3, []api.Tree{x, equation(number(1), tree(api.EDer, ref("x")))}},
		"time":       {3, []api.Tree{equation(number(1), tree(api.ETime))}},
		"power":      {4, []api.Tree{equation(number(1), api.Tree{Kind: api.EPow, N: 2, Kids: []api.Tree{number(1)}})}},
		"call":       {4, []api.Tree{equation(number(1), api.Tree{Kind: api.ECall, N: api.TSin, Kids: []api.Tree{number(1)}})}},
		"flow":       {1, []api.Tree{part("r", 0, "R")}},
		"sets":       {7, sets},
		"sets twice": {7, append(sets, tree(api.IConnect, ref("p"), ref("r", "p")))},
	} {
		for more, want := range map[int]api.Errno{0: api.OK, 1: api.ErrLong} {
			if _, e := flatTree(t, withNodes(4000-row.nodes+more, row.items...)); e != want {
				t.Errorf("%s: %d, with %d more", name, e, more)
			}
		}
	}
}

// A node that would be one more: what is wrong with it comes first, but not what is behind it.
func TestNodesFirst(t *testing.T) {
	x := variable("x", 0, false)
	for i, row := range []struct {
		left int
		rule api.Tree
		e    api.Errno
	}{
		{0, equation(ref("y"), number(1)), api.ErrName},
		{0, equation(number(1), ref("y")), api.ErrLong},
		{1, equation(number(1), ref("y")), api.ErrName},
		{0, equation(tree(api.EDer, ref("r")), number(1)), api.ErrClass},
		{1, equation(number(1), ref("r")), api.ErrClass},
		{2, equation(number(1), ref("x")), api.ErrLong},
		{2, equation(tree(api.ENeg, number(1)), ref("y")), api.ErrName},
		{2, equation(tree(api.EAdd, number(1), number(1)), ref("y")), api.ErrLong},
		{1, equation(tree(api.ENeg, number(1)), ref("y")), api.ErrLong},
		{0, tree(api.IConnect, ref("x"), ref("x")), api.ErrClass},
		{0, tree(api.IStart, ref("r"), number(1), number(1)), api.ErrClass},
		{3, equation(number(1), ref("x")), api.ErrLong}, // the flow of r
		{4, equation(number(1), ref("x")), api.OK},
	} {
		if _, e := flatTree(t, withNodes(4000-row.left, x, part("r", 0, "R"), row.rule)); e != row.e {
			t.Error(i, e)
		}
	}
}

// withRules has main items ahead, and goes through n rules in all, these not counted.
func withRules(n int, items ...api.Tree) api.Tree {
	bulk := loop("i", 1, 16, slices.Repeat([]api.Tree{loop("j", 1, 0)}, 240)...) // 3841
	rules := append(slices.Repeat([]api.Tree{loop("j", 1, 0)}, n-3841), bulk)
	return file(connector("P", variable("e", 0, false)), model("A", append(rules, items...)...))
}

func TestMostRules(t *testing.T) {
	just(t, 4000, func(n int) api.Tree { return withRules(n) }, func(f api.Flat) int { return 4000 + len(f.Vars) })
	x, p := variable("x", 0, false), part("p", 0, "P")
	one := number(1)
	for name, rules := range map[string][]api.Tree{
		"start":    {tree(api.IStart, ref("x"), one, one)},
		"connect":  {tree(api.IConnect, ref("p"), ref("p"))},
		"equation": {equation(one, one)},
		"for":      {loop("j", 1, 0)},
		"within":   {loop("j", 1, 2, equation(one, one), tree(api.IConnect, ref("p"), ref("p")))},
		"within 2": {loop("j", 1, 2, loop("k", 2, 3, equation(one, one)), loop("i", 7, 6, equation(one, one)))},
	} {
		n := len(rules)
		switch name {
		case "within":
			n = 5
		case "within 2":
			n = 1 + 2*(1+2+1)
		}
		for more, want := range map[int]api.Errno{0: api.OK, 1: api.ErrLong} {
			if _, e := flatTree(t, withRules(4000-n+more, append(rules, x, p)...)); e != want {
				t.Errorf("%s: %d, with %d more", name, e, more)
			}
		}
	}
	just(t, 4000, func(n int) api.Tree { // in parts
		rules := slices.Repeat([]api.Tree{loop("j", 1, 0)}, 249)
		return file(model("B", rules...), model("A", append(slices.Repeat([]api.Tree{loop("j", 1, 0)}, n-16*249), part("b", 16, "B"))...))
	}, func(f api.Flat) int { return 4000 + len(f.Vars) })
}

// A rule counts ahead of being gone through: what is wrong with one that is too much is not told.
func TestRulesFirst(t *testing.T) {
	x := variable("x", 0, false)
	bad := equation(ref("y"), number(1))
	for i, row := range []struct {
		left int
		rule api.Tree
		e    api.Errno
	}{
		{1, bad, api.ErrName},
		{0, bad, api.ErrLong},
		{1, tree(api.IStart, ref("y"), number(1), number(1)), api.ErrName},
		{0, tree(api.IStart, ref("y"), number(1), number(1)), api.ErrLong},
		{1, tree(api.IConnect, ref("y"), ref("y")), api.ErrName},
		{0, tree(api.IConnect, ref("y"), ref("y")), api.ErrLong},
		{2, loop("i", 1, 1, bad), api.ErrName},
		{1, loop("i", 1, 1, bad), api.ErrLong},
		{0, loop("i", 1, 0, bad), api.ErrLong},
		{1, loop("i", 1, 0, bad), api.OK},
		{2, loop("i", 1, 2, equation(ref("x"), ref("x"))), api.ErrLong},
		{3, loop("i", 1, 2, equation(ref("x"), ref("x"))), api.OK},
	} {
		if _, e := flatTree(t, withRules(4000-row.left, x, row.rule)); e != row.e {
			t.Error(i, e)
		}
	}
}

// Equations that would be too many: their nodes are made first.
func TestEquationsFirst(t *testing.T) {
	x := variable("x", 0, false)
	fine := slices.Repeat([]api.Tree{equation(ref("x"), number(0))}, 64)
	for i, row := range []struct {
		left  int
		rules []api.Tree
		e     api.Errno
	}{
		{0, []api.Tree{equation(ref("y"), number(1))}, api.ErrName},
		{0, []api.Tree{equation(ref("x"), number(1)), equation(ref("y"), number(1))}, api.ErrLong},
		{1, []api.Tree{equation(ref("x"), number(1)), equation(number(1), ref("y"))}, api.ErrName},
		{0, []api.Tree{tree(api.IStart, ref("y"), number(1), number(1)), equation(ref("x"), number(1))}, api.ErrName},
		{0, []api.Tree{equation(ref("x"), number(1)), tree(api.IStart, ref("y"), number(1), number(1))}, api.ErrLong},
	} {
		f := file(model("A", append(append([]api.Tree{x}, fine[row.left:]...), row.rules...)...))
		if _, e := flatTree(t, f); e != row.e {
			t.Error(i, e)
		}
	}
}

// What could go on nearly for ever ends soon.
func TestLargeEndsSoon(t *testing.T) {
	deep := equation(ref("x"), number(1))
	for range 24 {
		deep = loop("i", 1, 16, deep, deep)
		deep.Kids = deep.Kids[:1]
	}
	empty := loop("i", 1, 16)
	for range 24 {
		empty = loop("i", 1, 16, empty)
	}
	chain := file()
	for i := range 39 {
		class := model("C" + string(rune('a'+i/26)) + string(rune('a'+i%26)))
		if i > 0 {
			class.Kids = []api.Tree{part("p", 16, chain.Kids[i-1].Name), part("q", 16, chain.Kids[i-1].Name)}
		}
		chain.Kids = append(chain.Kids, class)
	}
	params := model("B", many(600, func(name string) api.Tree { return parameter(name, expression(3)) })...)
	wide := file(params, model("A", many(13, func(name string) api.Tree { return part(name, 15, "B") })...))
	begun := time.Now()
	for i, row := range []struct {
		f api.Tree
		e api.Errno
	}{
		{file(model("A", variable("x", 0, false), deep)), api.ErrLong},
		{file(model("A", empty)), api.ErrLong},
		{chain, api.ErrLong},
		{wide, api.OK},
		{connected(), api.OK},
	} {
		if _, e := flatten.Flatten(row.f); e != row.e {
			t.Error(i, e)
		}
	}
	if d := time.Since(begun); d > 10*time.Second {
		t.Error(d)
	}
}

// connected has 192 connectors, and some 3900 connections of them, without variables.
func connected() api.Tree {
	main := model("A", many(12, func(name string) api.Tree { return part(name, 16, "N") })...)
	for range 15 {
		for at := range 11 {
			a, b := ref(main.Kids[at].Name), ref(main.Kids[(at*7+3)%12].Name)
			a.Kids[0].Kids = []api.Tree{ref("i")}
			b.Kids[0].Kids = []api.Tree{tree(api.ESub, ref("m"), number(0))}
			main.Kids = append(main.Kids, loop("m", 1, 3, loop("i", 9, 14, tree(api.IConnect, a, b))))
		}
	}
	return file(connector("N"), main)
}

// A chain of instances as long as may be: one class of each depth.
func TestDeepParts(t *testing.T) {
	f := file(model("Ca", variable("x", 2, false), equation(tree(api.ERef, named(api.EPart, "x", number(2))), number(1))))
	path := ""
	for i := 1; i < 40; i++ {
		name := "C" + string(rune('a'+i/26)) + string(rune('a'+i%26))
		f.Kids = append(f.Kids, model(name, part("p", i%2, f.Kids[i-1].Name)))
		path = "p." + path
		if i%2 == 1 {
			path = "p[1]." + path[2:]
		}
	}
	got, e := flatTree(t, f)
	if e != api.OK || len(got.Vars) != 2 || got.Vars[1].Name != path+"x[2]" || len(got.Eqs) != 1 {
		t.Error(e, written(got), path)
	}
}
