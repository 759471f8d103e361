package parse_test

import (
	"math"
	"testing"

	"orrery/api"
	"orrery/parse"
)

// checkRight asks what Right, and with its error Print, tell of a tree.
func checkRight(t *testing.T, tree api.Tree, want api.Errno) {
	t.Helper()
	before := copied(tree)
	if e := parse.Right(tree); e != want {
		t.Errorf("%v: %d, not %d", tree, e, want)
	}
	if text, e := parse.Print(tree); want != api.OK && (e != want || text != "") || want == api.OK && e != api.OK && e != api.ErrLong {
		t.Errorf("%v: printed %q %d, not %d", tree, text, e, want)
	}
	if !equal(tree, before) {
		t.Errorf("%v was changed: %v", before, tree)
	}
}

// samples has a node of each kind, and where it is in a file.
func samples() map[int]func(node api.Tree) api.Tree {
	in := func(wrap func(node api.Tree) api.Tree, kinds ...int) map[int]func(node api.Tree) api.Tree {
		all := map[int]func(node api.Tree) api.Tree{}
		for _, kind := range kinds {
			all[kind] = wrap
		}
		return all
	}
	all := in(equation, api.ENum, api.ERef, api.EDer, api.ETime, api.ECall, api.ENeg, api.EAdd, api.ESub, api.EMul, api.EDiv, api.EPow)
	for kind, wrap := range in(func(node api.Tree) api.Tree { return fileOf(node) }, api.IParam, api.IVar, api.IPart, api.IStart, api.IConnect, api.IEquation, api.IFor) {
		all[kind] = wrap
	}
	for kind, wrap := range in(func(node api.Tree) api.Tree { return t0(api.DFile, node) }, api.DUnit, api.DClass) {
		all[kind] = wrap
	}
	for kind, wrap := range in(func(node api.Tree) api.Tree { return t0(api.DFile, named(api.DUnit, "u", node)) }, api.UOne, api.UName, api.UMul, api.UDiv, api.UPow) {
		all[kind] = wrap
	}
	all[api.DFile] = func(node api.Tree) api.Tree { return node }
	all[api.EPart] = func(node api.Tree) api.Tree { return equation(ref(node)) }
	all[api.IMod] = func(node api.Tree) api.Tree { return fileOf(part("p", 2, "B", node)) }
	all[api.DType] = func(node api.Tree) api.Tree {
		return fileOf(api.Tree{Kind: api.IVar, Name: "x", Kids: []api.Tree{node}})
	}
	return all
}

func sampleNodes() []api.Tree {
	x, m, one := id("x"), named(api.UName, "m"), num(1, 1)
	return []api.Tree{
		t0(api.DFile), t0(api.DFile, named(api.DUnit, "m"), class(2, "B")),
		named(api.DUnit, "m"), named(api.DUnit, "v", m),
		class(1, "B"), class(2, "B", variable("x", 0, true)),
		named(api.IParam, "k", t0(api.DType), one), named(api.IParam, "k", t0(api.DType, m), x),
		variable("x", 0, false), variable("x", 1000000, true, m),
		part("p", 0, "B"), part("p", 1000000, "B", named(api.IMod, "k", one), named(api.IMod, "k", x)),
		named(api.IMod, "k", one),
		t0(api.IStart, x, one, x), t0(api.IStart, t0(api.EDer, x), one, one),
		t0(api.IConnect, x, ref(el("p"), el("x"))),
		t0(api.IEquation, one, x),
		loop("i", 0, 0), loop("i", 1000000, 1000000, t0(api.IConnect, x, x), t0(api.IEquation, x, x), loop("j", 1, 2)),
		t0(api.DType), t0(api.DType, m),
		num(0, 1), num(9223372036854775807, 1000000000000000000), one,
		x, ref(el("p", one), el("x", id("i"))),
		el("x"), el("x", one), el("x", num(1000000, 1)), el("x", id("i")), el("x", t0(api.EAdd, id("i"), one)), el("x", t0(api.ESub, id("i"), one)),
		t0(api.EDer, x), t0(api.ETime),
		call(api.TSqrt, x), call(api.TAtan, one),
		t0(api.ENeg, x), t0(api.EAdd, x, x), t0(api.ESub, x, x), t0(api.EMul, x, x), t0(api.EDiv, x, x),
		power(x, 64), power(x, -64), power(x, 0),
		t0(api.UOne), m, t0(api.UMul, m, m), t0(api.UDiv, m, m),
		upower(m, 64, 1), upower(m, -64, 1), upower(m, 0, 1), upower(m, -63, 64), upower(m, 1, 64),
	}
}

// changes are what a node may become, by one field.
func changes(node api.Tree) []api.Tree {
	var all []api.Tree
	add := func(change func(t *api.Tree)) {
		other := copied(node)
		change(&other)
		all = append(all, other)
	}
	for kind := -1; kind <= 43; kind++ {
		add(func(t *api.Tree) { t.Kind = kind })
	}
	for _, name := range []string{"", "y", "model", "in", "time", "1x", "_", "x ", " x", "x y", "x//", "ß", "xß", "x-y", "x.y", "\x00", "x\n", "abcdefghijklmnopqrstuvwx", "abcdefghijklmnopqrstuvwxy", "1", ";"} {
		add(func(t *api.Tree) { t.Name = name })
		add(func(t *api.Tree) { t.Alias = name })
	}
	for _, n := range []int{math.MinInt, -1000000, -65, -64, -1, 0, 1, 2, 3, 8, 9, 14, 15, 64, 65, 999999, 1000000, 1000001, math.MaxInt} {
		add(func(t *api.Tree) { t.N = n })
		add(func(t *api.Tree) { t.M = n })
	}
	add(func(t *api.Tree) { t.Flag = !t.Flag })
	for _, n := range numbers() {
		add(func(t *api.Tree) { t.Num = n })
	}
	for i := range node.Kids {
		add(func(t *api.Tree) { t.Kids = append(t.Kids[:i], t.Kids[i+1:]...) })
	}
	for _, kid := range sampleNodes() {
		add(func(t *api.Tree) { t.Kids = append(t.Kids, kid) })
		for i := range node.Kids {
			add(func(t *api.Tree) { t.Kids[i] = kid })
		}
	}
	return all
}

func numbers() []api.Rat {
	return []api.Rat{{}, {N: 0, D: 1}, {N: 1, D: 1}, {N: 0, D: 2}, {N: -1, D: 1}, {N: 1, D: -1}, {N: 1, D: 0}, {N: 2, D: 4}, {N: 1, D: 3}, {N: 3, D: 10}, {N: 1, D: 262144}, {N: 1, D: 524288}, {N: 1, D: 3814697265625}, {N: 1, D: 19073486328125},
		{N: 1, D: 1000000000000000000}, {N: 1, D: 2000000000000000000}, {N: math.MaxInt64, D: 1}, {N: math.MinInt64, D: 1}, {N: 1, D: math.MaxInt64}, {N: 1, D: math.MinInt64}, {N: -math.MaxInt64, D: 1},
		{N: 64, D: 1}, {N: 65, D: 1}, {N: -64, D: 1}, {N: -65, D: 1}, {N: 1, D: 64}, {N: 1, D: 65}, {N: -64, D: 63}, {N: 63, D: 64}, {N: 64, D: 65}, {N: 65, D: 64}, {N: 1000000, D: 1}, {N: 1000001, D: 1}, {N: 1, D: 2}}
}

func TestRightByTheTable(t *testing.T) {
	t.Parallel()
	rows := readTable()
	places := samples()
	right, wrong := 0, 0
	for _, node := range sampleNodes() {
		checkRight(t, places[node.Kind](node), api.OK)
		for _, other := range changes(node) {
			file := places[node.Kind](other)
			want := rows.judged(file)
			checkRight(t, file, want)
			if want == api.OK {
				right++
			} else {
				wrong++
			}
		}
	}
	if right < 500 || wrong < 10000 {
		t.Error(right, wrong)
	}
}

func TestRightByHand(t *testing.T) {
	x, m, one := id("x"), named(api.UName, "m"), num(1, 1)
	for _, file := range []api.Tree{
		t0(api.DFile), {Kind: api.DFile, Kids: []api.Tree{}}, fileOf(), fileOf(variable("x", 0, false)), equation(x),
		fileOf(part("p", 0, "A")), equation(ref(el("x", num(0, 1)))), equation(ref(el("x", num(1000000, 1)))), fileOf(variable("abcdefghijklmnopqrstuvwx", 0, false)),
		fileOf(t0(api.IStart, ref(el("p", one), el("x")), x, call(api.TLog, x))), t0(api.DFile, class(2, "A", equation(x).Kids[0].Kids...)),
		equation(ref(el("x", t0(api.EAdd, id("x"), num(0, 1))))), t0(api.DFile, named(api.DUnit, "u", upower(upower(m, 1, 2), 2, 1))), equation(num(1, 10)),
	} {
		checkRight(t, file, api.OK)
	}
	for _, file := range []api.Tree{
		{}, x, one, m, class(1, "A"), named(api.DUnit, "m"), t0(api.IEquation, x, x), t0(29), t0(42), t0(-30),
		t0(api.DFile, t0(api.DFile)), t0(api.DFile, x), t0(api.DFile, variable("x", 0, false)), named(api.DFile, "x"), {Kind: api.DFile, N: 1}, {Kind: api.DFile, M: 1}, {Kind: api.DFile, Flag: true}, {Kind: api.DFile, Num: api.Rat{N: 0, D: 1}}, {Kind: api.DFile, Alias: "x"},
		t0(api.DFile, class(0, "A")), t0(api.DFile, class(3, "A")), t0(api.DFile, class(1, "")), t0(api.DFile, class(1, "end")), t0(api.DFile, class(1, "1")), t0(api.DFile, class(1, "A", class(1, "B"))), t0(api.DFile, class(1, "A", named(api.DUnit, "m"))),
		t0(api.DFile, named(api.DUnit, "m", x)), t0(api.DFile, named(api.DUnit, "m", m, m)), t0(api.DFile, named(api.DUnit, "m", t0(api.UMul, m))), t0(api.DFile, named(api.DUnit, "m", t0(api.UMul, m, m, m))), t0(api.DFile, named(api.DUnit, "m", t0(api.UMul, m, one))), t0(api.DFile, named(api.DUnit, "m", upower(m, 1, 65))), t0(api.DFile, named(api.DUnit, "m", upower(m, 65, 1))), t0(api.DFile, named(api.DUnit, "m", upower(m, 2, 2))), t0(api.DFile, named(api.DUnit, "m", upower(m, 0, 0))), t0(api.DFile, named(api.DUnit, "m", named(api.UName, ""))),
		fileOf(named(api.IMod, "k", one)), fileOf(t0(api.DType)), fileOf(x), fileOf(variable("x", -1, false)), fileOf(variable("x", 1000001, false)), fileOf(variable("x", 0, false, m, m)), fileOf(named(api.IVar, "x")), fileOf(named(api.IVar, "x", m)),
		fileOf(part("p", 0, "")), fileOf(part("p", 0, "der")), fileOf(part("p", 1000001, "B")), fileOf(part("p", 0, "B", x)), fileOf(part("p", 0, "B", named(api.IMod, "k"))), fileOf(part("p", 0, "B", named(api.IMod, "k", one, one))), fileOf(part("sin", 0, "B")),
		fileOf(t0(api.IStart, x, one)), fileOf(t0(api.IStart, x, one, one, one)), fileOf(t0(api.IStart, one, one, one)), fileOf(t0(api.IStart, x, m, one)), fileOf(t0(api.IConnect, x)), fileOf(t0(api.IConnect, x, one)), fileOf(t0(api.IConnect, t0(api.EDer, x), x)), fileOf(t0(api.IEquation, x)), fileOf(t0(api.IEquation, x, el("x"))),
		fileOf(loop("i", -1, 1)), fileOf(loop("i", 1, -1)), fileOf(loop("i", 1000001, 1)), fileOf(loop("i", 1, 1000001)), fileOf(loop("", 1, 1)), fileOf(loop("do", 1, 1)), fileOf(loop("i", 1, 1, variable("x", 0, false))), fileOf(loop("i", 1, 1, t0(api.IStart, x, one, one))), fileOf(loop("i", 1, 1, part("p", 0, "B"))),
		fileOf(named(api.IParam, "k", one)), fileOf(named(api.IParam, "k", one, t0(api.DType))), fileOf(named(api.IParam, "k", t0(api.DType), m)), fileOf(named(api.IParam, "k", t0(api.DType), one, one)),
		equation(num(-1, 1)), equation(num(1, 3)), equation(num(2, 2)), equation(num(1, 524288)), equation(api.Tree{Kind: api.ENum}), equation(t0(api.ERef)), equation(ref(x)), equation(ref(el("x", x, x))), equation(ref(el("x", num(1, 2)))), equation(ref(el("x", num(1000001, 1)))), equation(ref(el("x", t0(api.ENeg, one)))), equation(ref(el("x", t0(api.EMul, id("i"), one)))), equation(ref(el("x", t0(api.EAdd, one, id("i"))))), equation(ref(el("x", t0(api.EAdd, id("i"), id("i"))))), equation(ref(el("x", t0(api.EAdd, one, one)))), equation(ref(el("x", t0(api.EAdd, id("i"), num(1, 2))))), equation(ref(el("x", t0(api.EAdd, id("i"), num(1000001, 1))))), equation(ref(el("x", ref(el("i"), el("j"))))), equation(ref(el("x", ref(el("i", one))))), equation(ref(el("x", t0(api.ESub, ref(el("i", one)), one)))), equation(ref(el("x", t0(api.ETime)))), equation(ref(el("x", t0(api.EAdd, id("i"))))),
		equation(t0(api.EDer, one)), equation(t0(api.EDer)), equation(t0(api.EDer, x, x)), equation(t0(api.ETime, x)), equation(call(8, x)), equation(call(15, x)), equation(call(api.TSin, m)), equation(t0(api.ECall, x)), equation(t0(api.ENeg)), equation(t0(api.ENeg, x, x)), equation(t0(api.EAdd, x)), equation(t0(api.EAdd, x, x, x)), equation(power(x, 65)), equation(power(x, -65)), equation(el("x")), equation(m), equation(equation(x)),
	} {
		checkRight(t, file, api.ErrTree)
	}
}

// What is deep is told of any tree, whatever its nodes are.
func TestDeepComesFirst(t *testing.T) {
	for _, kind := range []int{-1, 0, api.DFile, api.ENeg, api.EPart, 99} {
		tree := t0(kind)
		for range api.MaxDepth {
			tree = t0(kind, tree)
		}
		checkRight(t, tree, api.ErrDeep)
		checkRight(t, tree.Kids[0], api.ErrTree)
		checkRight(t, t0(api.DFile, t0(kind), tree.Kids[0].Kids[0], tree.Kids[0]), api.ErrDeep)
		checkRight(t, t0(api.DFile, t0(kind), tree.Kids[0].Kids[0], t0(kind)), api.ErrTree)
	}
}

// A list can be at many places of a tree, or within itself: such trees have more nodes than could be gone through.
func TestListsThatAreShared(t *testing.T) {
	levelOf := func(n int) api.Tree {
		tree := id("x")
		for range n {
			kids := make([]api.Tree, 1000)
			for i := range kids {
				kids[i] = tree
			}
			tree = t0(api.EAdd, kids...)
		}
		return tree
	}
	for n, want := range map[int]api.Errno{1: api.ErrTree, 5: api.ErrTree, 28: api.ErrTree, 29: api.ErrDeep, 60: api.ErrDeep} {
		if e := parse.Right(levelOf(n)); e != want {
			t.Error(n, e)
		}
		if text, e := parse.Print(levelOf(n)); e != want || text != "" {
			t.Error(n, e)
		}
	}
	kids := make([]api.Tree, 3)
	for i := range kids {
		kids[i] = t0(api.ENeg, kids...)
	}
	if e := parse.Right(t0(api.DFile, kids...)); e != api.ErrDeep {
		t.Error(e)
	}
	kids = []api.Tree{id("x"), id("x"), {}}
	kids[2] = t0(api.EAdd, kids[:2]...)
	shared := fileOf(t0(api.IEquation, kids[2], kids[2]), t0(api.IEquation, kids[2], kids[0]))
	checkRight(t, shared, api.OK)
	checkTree(t, "model A x + x = x + x; x + x = x; end;", shared)
	kids[2].Kids = kids // the last one holds itself
	if e := parse.Right(equation(kids[2])); e != api.ErrDeep {
		t.Error(e)
	}
}

// Parts of one list are other lists.
func TestListsThatOverlap(t *testing.T) {
	long := []api.Tree{id("x"), t0(api.ENeg, id("x")), deepExpression(27, func(t api.Tree) api.Tree { return t0(api.ENeg, t) })}
	short := t0(api.EAdd, long[:2]...)
	checkRight(t, fileOf(t0(api.IEquation, short, short), t0(api.IEquation, long[:2]...), t0(api.IEquation, long[1:]...)), api.OK)
	checkRight(t, fileOf(t0(api.IEquation, short, short), t0(api.IEquation, t0(api.EAdd, long[1:]...), short)), api.ErrDeep)
	checkRight(t, fileOf(t0(api.IEquation, short, short), t0(api.IEquation, long...)), api.ErrTree)
}

func TestJunk(t *testing.T) {
	t.Parallel()
	rows := readTable()
	d := draw(5)
	nodes := sampleNodes()
	for range 20000 {
		tree := copied(nodes[d.Intn(len(nodes))])
		for range d.Intn(4) {
			tree = t0(d.Intn(45)-1, append(d.some(2, func() api.Tree { return nodes[d.Intn(len(nodes))] }), tree)...)
		}
		checkRight(t, tree, rows.judged(tree))
		checkRight(t, t0(api.DFile, tree), rows.judged(t0(api.DFile, tree)))
		checkRight(t, equation(tree), rows.judged(equation(tree)))
	}
}

// changedSomewhere is a tree in which one node became another one.
func (d drawn) changedSomewhere(t api.Tree) api.Tree {
	t = copied(t)
	at := &t
	for len(at.Kids) > 0 && d.Intn(5) > 0 {
		at = &at.Kids[d.Intn(len(at.Kids))]
	}
	all := changes(*at)
	*at = all[d.Intn(len(all))]
	return t
}

func TestRightByChance(t *testing.T) {
	t.Parallel()
	rows := readTable()
	told := map[api.Errno]int{}
	for seed := range int64(1000) {
		d := draw(seed)
		file := d.file()
		checkRight(t, file, api.OK)
		other := d.changedSomewhere(file)
		want := rows.judged(other)
		told[want]++
		checkRight(t, other, want)
	}
	if told[api.OK] < 50 || told[api.ErrTree] < 500 {
		t.Error(told)
	}
}
