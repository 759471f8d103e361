package flatten_test

import (
	"slices"
	"testing"

	"orrery/api"
	"orrery/flatten"
	"orrery/parse"
)

// Short ways to write trees.

func tree(kind int, kids ...api.Tree) api.Tree { return api.Tree{Kind: kind, Kids: kids} }

func named(kind int, name string, kids ...api.Tree) api.Tree {
	return api.Tree{Kind: kind, Name: name, Kids: kids}
}

func number(n int64) api.Tree { return api.Tree{Kind: api.ENum, Num: api.Rat{N: n, D: 1}} }

func ref(names ...string) api.Tree {
	t := tree(api.ERef)
	for _, name := range names {
		t.Kids = append(t.Kids, named(api.EPart, name))
	}
	return t
}

func model(name string, items ...api.Tree) api.Tree {
	return api.Tree{Kind: api.DClass, Name: name, N: 1, Kids: items}
}

func connector(name string, items ...api.Tree) api.Tree {
	return api.Tree{Kind: api.DClass, Name: name, N: 2, Kids: items}
}

func variable(name string, n int, flow bool, dim ...api.Tree) api.Tree {
	return api.Tree{Kind: api.IVar, Name: name, N: n, Flag: flow, Kids: []api.Tree{tree(api.DType, dim...)}}
}

func parameter(name string, value api.Tree, dim ...api.Tree) api.Tree {
	return named(api.IParam, name, tree(api.DType, dim...), value)
}

func part(name string, n int, class string, mods ...api.Tree) api.Tree {
	return api.Tree{Kind: api.IPart, Name: name, N: n, Alias: class, Kids: mods}
}

func equation(a, b api.Tree) api.Tree { return tree(api.IEquation, a, b) }

func loop(name string, n, m int, rules ...api.Tree) api.Tree {
	return api.Tree{Kind: api.IFor, Name: name, N: n, M: m, Kids: rules}
}

func file(kids ...api.Tree) api.Tree { return tree(api.DFile, kids...) }

// equal tells whether trees are the same; a nil list is an empty one.
func equal(a, b api.Tree) bool {
	if len(a.Kids) != len(b.Kids) {
		return false
	}
	for i := range a.Kids {
		if !equal(a.Kids[i], b.Kids[i]) {
			return false
		}
	}
	return a.Kind == b.Kind && a.Name == b.Name && a.Alias == b.Alias && a.N == b.N && a.M == b.M && a.Flag == b.Flag && a.Num == b.Num
}

// copied is the same tree in other memory.
func copied(t api.Tree) api.Tree {
	kids := make([]api.Tree, len(t.Kids))
	for i, kid := range t.Kids {
		kids[i] = copied(kid)
	}
	t.Kids = kids
	return t
}

func parsed(t *testing.T, text string) api.Tree {
	t.Helper()
	f, e, at := parse.Parse(text)
	if e != api.OK {
		t.Fatalf("%q: %d at %d", text, e, at)
	}
	return f
}

// same tells whether flat models are; a nil list is an empty one.
func same(a, b api.Flat) bool {
	return slices.Equal(a.Vars, b.Vars) && slices.Equal(a.Nodes, b.Nodes) && slices.Equal(a.Eqs, b.Eqs) && slices.Equal(a.Starts, b.Starts)
}

// flatTree asks of a tree what Flatten tells: it must be what the words tell, and the tree must stay as it was.
func flatTree(t *testing.T, f api.Tree) (api.Flat, api.Errno) {
	t.Helper()
	before := copied(f)
	got, e := flatten.Flatten(f)
	if !equal(f, before) {
		t.Errorf("%v became %v", before, f)
	}
	want, wantE := wanted(f)
	if e != wantE || !same(got, want) {
		t.Errorf("%s: %d %s, want %d %s", printed(f), e, written(got), wantE, written(want))
	}
	return got, e
}

// printed is a tree's text, if it has one.
func printed(f api.Tree) string {
	s, e := parse.Print(f)
	if e != api.OK {
		return "a tree without a text"
	}
	return s
}

// flatTexts asks of each text for what is written, or for an error.
func flatTexts(t *testing.T, rows map[string]any) {
	t.Helper()
	for text, want := range rows {
		flatText(t, text, want)
	}
}

func flatText(t *testing.T, text string, want any) {
	t.Helper()
	got, e := flatTree(t, parsed(t, text))
	switch want := want.(type) {
	case api.Errno:
		if e != want || !same(got, api.Flat{}) {
			t.Errorf("%q: %d %s, want %d", text, e, written(got), want)
		}
	case string:
		if e != api.OK || written(got) != want {
			t.Errorf("%q: %d %s, want %s", text, e, written(got), want)
		} else if !same(got, read(want)) {
			t.Errorf("%q: %v, want %v", text, got, read(want))
		}
	default:
		t.Fatal(want)
	}
}
