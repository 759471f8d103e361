package check_test

import (
	"testing"

	"orrery/api"
	"orrery/check"
)

// checkClass asks for a class by its name: at is the place among the Kids, or below 0.
func checkClass(t *testing.T, f api.Tree, name string, at int) {
	t.Helper()
	want := api.Tree{}
	if at >= 0 {
		want = f.Kids[at]
	}
	got, ok := check.Class(f, name)
	if ok != (at >= 0) || !equal(got, want) {
		t.Errorf("%q of %v: %v %t, want %v", name, f, got, ok, want)
	}
}

func TestClass(t *testing.T) {
	f := parsed(t, "unit A; model B param k = 1; part D: C(j = k); end; unit B; connector C var e; end; model A x = 1; end;")
	for name, at := range map[string]int{"A": 4, "B": 1, "C": 3, "D": -1, "k": -1, "e": -1, "": -1, "b": -1, "AB": -1, "model": -1} {
		checkClass(t, f, name, at)
	}
	checkClass(t, file(), "A", -1)
	checkClass(t, file(named(api.DUnit, "A")), "A", -1)
	checkClass(t, file(model("A"), model("A", variable("x", 0, false)), connector("A")), "A", 0)
	checkClass(t, file(connector("B"), connector("A"), model("B", variable("x", 0, false)), model("A")), "A", 1)
	checkClass(t, file(named(api.DUnit, "A"), connector("B"), model("A", loop("i", 1, 99)), model("A")), "A", 2)
}

// Classes that can't stand, and Kids of trees that are no file's.
func TestClassOfAnyTree(t *testing.T) {
	odd := api.Tree{Kind: api.DClass, Name: "A", Alias: "x", N: 77, M: -3, Flag: true, Num: api.Rat{N: 2, D: 0}, Kids: []api.Tree{{}, number(-1), file(), model("C")}}
	for _, kind := range []int{0, -1, api.DFile, api.DUnit, api.DClass, api.ENum, api.ERef, api.IFor, api.DType, 1 << 40} {
		f := tree(kind, number(1), odd, model("A"), named(api.DUnit, "B"), model("B"), model(""), model("is no name"))
		checkClass(t, f, "A", 1)
		checkClass(t, f, "B", 4)
		checkClass(t, f, "", 5)
		checkClass(t, f, "is no name", 6)
		checkClass(t, f, "C", -1) // no Kid of f
		f.Name = "D"
		checkClass(t, f, "D", -1)
		checkClass(t, tree(kind), "A", -1)
		checkClass(t, tree(kind), "", -1)
		checkClass(t, tree(kind, number(1), tree(api.DFile, odd)), "A", -1)
	}
	for kind := -2; kind < 45; kind++ {
		want := -1
		if kind == api.DClass {
			want = 0
		}
		checkClass(t, file(named(kind, "A", number(1))), "A", want)
		checkClass(t, file(named(kind, "")), "", want)
	}
	checkClass(t, api.Tree{}, "", -1)
}

// lists are all lists of a tree.
func lists(t api.Tree) [][]api.Tree {
	all := [][]api.Tree{t.Kids}
	for _, kid := range t.Kids {
		all = append(all, lists(kid)...)
	}
	return all
}

// checkOwn asks that no two of a tree's lists share anything, nor one of them and one of the other tree.
func checkOwn(t *testing.T, own, other api.Tree) {
	t.Helper()
	met := map[*api.Tree]bool{}
	for _, list := range lists(other) {
		for i := range list {
			met[&list[i]] = true
		}
	}
	for _, list := range lists(own) {
		list = list[:cap(list)]
		for i := range list {
			if met[&list[i]] {
				t.Fatalf("two lists share a place: %v", list)
			}
			met[&list[i]] = true
		}
	}
}

func TestClassIsNewMemory(t *testing.T) {
	f := parsed(t, "unit m; model A param k: m = -(1 + 2 / 3)^2; var x[3]: m^2; part b[2]: B(k = 1, j = 2); start x[1] in [k, 2]; for i in 1..2 do for j in 1..2 do x[i + 1] = b[j - 1].y; end; end; end;")
	before := copied(f)
	class, ok := check.Class(f, "A")
	if !ok || !equal(class, f.Kids[1]) {
		t.Fatal(class, ok)
	}
	checkOwn(t, class, f)
	for _, list := range lists(class) {
		for i := range list {
			list[i].Kind, list[i].Name, list[i].N = 99, "changed", 99
		}
	}
	if !equal(f, before) {
		t.Errorf("%v became %v", before, f)
	}
	again, ok := check.Class(f, "A")
	if !ok || !equal(again, before.Kids[1]) {
		t.Error(again, ok)
	}
}

// Lists that are at many places are others at each of them.
func TestClassOfSharedLists(t *testing.T) {
	level := number(1)
	for range 12 {
		level = tree(api.EAdd, level, level)
	}
	f := file(model("A", parameter("k", level), parameter("l", level)))
	class, ok := check.Class(f, "A")
	if !ok || !equal(class, f.Kids[0]) {
		t.Fatal(ok)
	}
	checkOwn(t, class, f)
	long := []api.Tree{number(1), number(2), tree(api.ENeg, number(3)), number(4)}
	f = file(model("A", tree(api.EAdd, long[:2]...), tree(api.EAdd, long[1:3]...), tree(api.EAdd, long...), tree(api.EAdd, long[:3]...)), model("A", long...))
	class, ok = check.Class(f, "A")
	if !ok || !equal(class, f.Kids[0]) {
		t.Error(class, ok)
	}
	checkOwn(t, class, f)
}

func TestClassOfDeepTrees(t *testing.T) {
	deep := number(7)
	for range 1 << 16 {
		deep = tree(api.ENeg, deep)
	}
	f := file(model("A", deep))
	class, ok := check.Class(f, "A")
	if !ok || !equal(class, f.Kids[0]) {
		t.Error(ok)
	}
	checkOwnSpine(t, class, f.Kids[0])
}

// checkOwnSpine goes along first Kids alone.
func checkOwnSpine(t *testing.T, a, b api.Tree) {
	t.Helper()
	for len(a.Kids) > 0 {
		if &a.Kids[0] == &b.Kids[0] {
			t.Fatal("a list is shared")
		}
		a, b = a.Kids[0], b.Kids[0]
	}
}

// Trees that would have more nodes than there is room for, or that are within themselves: the call ends.
func TestClassOfEndlessTrees(t *testing.T) {
	level := number(1)
	for range 2000 {
		level = tree(api.EAdd, level, level)
	}
	f := file(model("A", level))
	class, ok := check.Class(f, "A")
	if !ok {
		t.Error("not found")
	}
	checkOwnSpine(t, class, f.Kids[0])
	ring := []api.Tree{number(1), {}, {}}
	ring[1] = tree(api.ENeg, ring...)
	ring[2] = tree(api.EMul, ring[:2]...)
	ring[1].Kids = ring
	class, ok = check.Class(file(model("B"), model("A", ring...)), "A")
	if !ok || len(class.Kids) != 3 || &class.Kids[0] == &ring[0] || class.Kids[1].Kids[1].Kids[1].Kids[0].Kind != api.ENum || &class.Kids[1].Kids[0] == &ring[0] {
		t.Error("not the same ring in other memory")
	}
	self := []api.Tree{model("A")}
	self[0].Kids = self
	class, ok = check.Class(tree(api.DFile, self...), "A")
	if !ok || class.Kids[0].Kids[0].Name != "A" || &class.Kids[0] == &self[0] {
		t.Error("not found in itself")
	}
}
