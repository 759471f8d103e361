package symb_test

import (
	"slices"
	"testing"

	"orrery/api"
	"orrery/symb"
)

func (g asked) same(h asked) bool {
	return slices.Equal(g.nodes, h.nodes) && slices.Equal(g.roots, h.roots) && slices.Equal(g.rates, h.rates)
}

func (g asked) copied() asked {
	return asked{slices.Clone(g.nodes), slices.Clone(g.roots), slices.Clone(g.rates)}
}

// spoil overwrites all elements that a list has, and has room for.
func spoil[T any](list []T, with T) {
	list = list[:cap(list)]
	for i := range list {
		list[i] = with
	}
}

func (g asked) spoil() {
	spoil(g.nodes, api.Node{Kind: -3, A: -5})
	spoil(g.roots, -7)
	spoil(g.rates, -9)
}

func build(g asked) (asked, api.Errno) {
	nodes, roots, e := symb.Build(g.nodes, g.roots)
	return asked{nodes: nodes, roots: roots}, e
}

func diff(g asked) (asked, api.Errno) {
	nodes, roots, rates, e := symb.Diff(g.nodes, g.roots)
	return asked{nodes, roots, rates}, e
}

// checked asks twice, and holds what is told against the document's words, and against the rules for all calls: arguments stay, the second answer is as the first one, and lists share nothing.
func checked(t *testing.T, what string, g asked, ask, words func(asked) (asked, api.Errno)) (asked, api.Errno) {
	t.Helper()
	given := g.copied()
	got, e := ask(g)
	want, wantErr := words(given.copied())
	if e != wantErr || !got.same(want) {
		t.Fatalf("%s of %v: %d, %v; want %d, %v", what, given, e, got, wantErr, want)
	}
	if e != api.OK && (got.nodes != nil || got.roots != nil || got.rates != nil) {
		t.Errorf("%s of %v: %d with %v", what, given, e, got)
	}
	kept := got.copied()
	for _, list := range []func(){func() { spoil(got.nodes, api.Node{}) }, func() { spoil(got.roots, 1<<40) }, func() { spoil(got.rates, 1<<41) }} {
		list()
		if !g.same(given) {
			t.Errorf("%s of %v: shares with what was given", what, given)
		}
	}
	got, e = ask(g)
	roots, rates := slices.Clone(got.roots), slices.Clone(got.rates)
	spoil(got.nodes, api.Node{Kind: 77})
	if !slices.Equal(got.roots, roots) || !slices.Equal(got.rates, rates) {
		t.Errorf("%s of %v: lists share", what, given)
	}
	spoil(got.roots, 1<<42)
	if !slices.Equal(got.rates, rates) {
		t.Errorf("%s of %v: roots and rates share", what, given)
	}
	again, _ := ask(g)
	if !again.same(kept) || e != wantErr {
		t.Errorf("%s of %v: %v, and then %v", what, given, kept, again)
	}
	return again, e
}

// built asks for what is built of a graph, and diffed for it with the derivatives; both hold what they are told against the words.
func built(t *testing.T, g asked) (asked, api.Errno) {
	t.Helper()
	return checked(t, "Build", g, build, buildByWords)
}

func diffed(t *testing.T, g asked) (asked, api.Errno) {
	t.Helper()
	return checked(t, "Diff", g, diff, diffByWords)
}

// usedBy asks for a root's Keys in the same way.
func usedBy(t *testing.T, g asked, root int) ([]api.Key, api.Errno) {
	t.Helper()
	given := g.copied()
	got, e := symb.Uses(g.nodes, root)
	want, wantErr := usesByWords(given.nodes, root)
	if e != wantErr || !slices.Equal(got, want) || e != api.OK && got != nil {
		t.Fatalf("Uses of %v, %d: %d, %v; want %d, %v", given, root, e, got, wantErr, want)
	}
	spoil(got, api.Key{V: -1})
	again, e := symb.Uses(g.nodes, root)
	if !g.same(given) || e != wantErr || !slices.Equal(again, want) {
		t.Errorf("Uses of %v, %d: %v, %d and then %v", given, root, want, e, again)
	}
	return again, e
}

// buildsTo asks for texts' graphs.
func buildsTo(t *testing.T, rows [][2]string) {
	t.Helper()
	for _, row := range rows {
		got, e := built(t, read(row[0]))
		if want := read(row[1]); e != api.OK || !got.same(want) {
			t.Errorf("%s: %d, %v; want %s, %v", row[0], e, got, row[1], want)
		}
	}
}

// derivesTo asks for texts' graphs with derivatives.
func derivesTo(t *testing.T, rows [][2]string) {
	t.Helper()
	for _, row := range rows {
		got, e := diffed(t, read(row[0]))
		if want := read(row[1]); e != api.OK || !got.same(want) {
			t.Errorf("%s: %d, %v; want %s, %v", row[0], e, got, row[1], want)
		}
	}
}
