package check_test

import (
	"testing"

	"orrery/api"
	"orrery/check"
	"orrery/parse"
)

// Short ways to write trees.

func tree(kind int, kids ...api.Tree) api.Tree { return api.Tree{Kind: kind, Kids: kids} }

func named(kind int, name string, kids ...api.Tree) api.Tree {
	return api.Tree{Kind: kind, Name: name, Kids: kids}
}

func number(n int64) api.Tree { return api.Tree{Kind: api.ENum, Num: api.Rat{N: n, D: 1}} }

func ref(names ...string) api.Tree {
	t := tree(api.ERef)
	for _, name := range names {
		t.Kids = append(t.Kids, named(api.EPart, name))
	}
	return t
}

func model(name string, items ...api.Tree) api.Tree {
	return api.Tree{Kind: api.DClass, Name: name, N: 1, Kids: items}
}

func connector(name string, items ...api.Tree) api.Tree {
	return api.Tree{Kind: api.DClass, Name: name, N: 2, Kids: items}
}

func variable(name string, n int, flow bool, dim ...api.Tree) api.Tree {
	return api.Tree{Kind: api.IVar, Name: name, N: n, Flag: flow, Kids: []api.Tree{tree(api.DType, dim...)}}
}

func parameter(name string, value api.Tree, dim ...api.Tree) api.Tree {
	return named(api.IParam, name, tree(api.DType, dim...), value)
}

func part(name, class string, mods ...api.Tree) api.Tree {
	return api.Tree{Kind: api.IPart, Name: name, Alias: class, Kids: mods}
}

func loop(name string, n, m int, rules ...api.Tree) api.Tree {
	return api.Tree{Kind: api.IFor, Name: name, N: n, M: m, Kids: rules}
}

func file(kids ...api.Tree) api.Tree { return tree(api.DFile, kids...) }

// equal tells whether trees are the same; a nil list is an empty one.
func equal(a, b api.Tree) bool {
	if len(a.Kids) != len(b.Kids) {
		return false
	}
	for i := range a.Kids {
		if !equal(a.Kids[i], b.Kids[i]) {
			return false
		}
	}
	return a.Kind == b.Kind && a.Name == b.Name && a.Alias == b.Alias && a.N == b.N && a.M == b.M && a.Flag == b.Flag && a.Num == b.Num
}

// copied is the same tree in other memory.
func copied(t api.Tree) api.Tree {
	kids := make([]api.Tree, len(t.Kids))
	for i, kid := range t.Kids {
		kids[i] = copied(kid)
	}
	t.Kids = kids
	return t
}

func parsed(t *testing.T, text string) api.Tree {
	t.Helper()
	f, e, at := parse.Parse(text)
	if e != api.OK {
		t.Fatalf("%q: %d at %d", text, e, at)
	}
	return f
}

// checkTree asks of a tree what Check tells; the words must tell the same, and the tree must stay as it was.
func checkTree(t *testing.T, f api.Tree, e api.Errno, class string) {
	t.Helper()
	before := copied(f)
	if got, name := check.Check(f); got != e || name != class {
		t.Errorf("%v: %d %q, want %d %q", f, got, name, e, class)
	}
	if !equal(f, before) {
		t.Errorf("%v became %v", before, f)
	}
	if got, name := wanted(f); got != e || name != class {
		t.Errorf("the words on %v: %d %q, not %d %q", f, got, name, e, class)
	}
}

func checkText(t *testing.T, text string, e api.Errno, class string) {
	t.Helper()
	before := t.Failed()
	checkTree(t, parsed(t, text), e, class)
	if t.Failed() && !before {
		t.Errorf("in %q", text)
	}
}

// said is an error, and the class in which it is.
type said struct {
	e     api.Errno
	class string
}

func checkTexts(t *testing.T, rows map[string]said) {
	t.Helper()
	for text, want := range rows {
		checkText(t, text, want.e, want.class)
	}
}

// checkItems asks of a model A with these items, beside a model B with the parameters k and l and a connector P: want is the error in A.
func checkItems(t *testing.T, rows map[string]api.Errno) {
	t.Helper()
	others := []string{"unit m; unit big = m^64;", "model B param k = 1; param l = 2; var z; end;", "connector P var e; flow f: m; end;"}
	for items, want := range rows {
		class := ""
		if want != api.OK {
			class = "A"
		}
		a := "model A " + items + " end;"
		checkText(t, others[0]+others[1]+others[2]+a, want, class)
		checkText(t, a+others[2]+others[1]+others[0], want, class)
		checkText(t, others[1]+a+others[0]+others[2], want, class)
	}
}
