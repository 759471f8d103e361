package flatten_test

import (
	"fmt"
	"maps"
	"slices"
	"strings"
	"testing"

	"orrery/api"
	"orrery/flatten"
)

// needed are the names of the classes that the last model needs, and its own.
func needed(f api.Tree) []string {
	byName := map[string]api.Tree{}
	var names []string
	for _, t := range f.Kids {
		if t.Kind == api.DClass {
			byName[t.Name] = t
			if t.N == 1 {
				names = []string{t.Name}
			}
		}
	}
	for i := 0; i < len(names); i++ {
		for _, p := range ofKind(byName[names[i]].Kids, api.IPart) {
			if !slices.Contains(names, p.Alias) {
				names = append(names, p.Alias)
			}
		}
	}
	return names
}

// answer is all that was told, as a text.
func answer(f api.Tree) string {
	flat, e := flatten.Flatten(f)
	return fmt.Sprint(e, " ", written(flat))
}

// others has a file's classes in another order, without those that its main one does not need, and with some more.
func (d drawn) others(f api.Tree) api.Tree {
	names := needed(f)
	var ahead, behind []api.Tree
	put := func(t api.Tree, last bool) {
		if last || d.Intn(2) == 0 {
			ahead = slices.Insert(ahead, d.Intn(len(ahead)+1), t)
		} else {
			behind = slices.Insert(behind, d.Intn(len(behind)+1), t)
		}
	}
	var main api.Tree
	drop := d.Intn(2) == 0 // all of them: they may need one another
	for _, t := range f.Kids {
		switch {
		case t.Kind != api.DClass:
		case t.Name == names[0]:
			main = t
		case !slices.Contains(names, t.Name):
			if !drop {
				put(t, t.N == 1)
			}
		default:
			put(t, t.N == 1)
		}
	}
	put(connector("Extra", variable("e", 0, false), variable("f", 0, true)), false)
	put(model("More", parameter("k", tree(api.EDiv, number(1), number(0))), part("p", 3, "Extra"), variable("x", 16, false), equation(ref("nobody"), number(1))), true)
	units := ofKind(f.Kids, api.DUnit)
	return copied(file(slices.Concat(units[:1], ahead, []api.Tree{main}, units[1:], behind)...))
}

// What classes there are beside those that are needed, and where they stand, changes nothing.
func TestOtherClasses(t *testing.T) {
	t.Parallel()
	told := 0
	for seed := range int64(300) {
		d := draw(300000 + seed)
		d.wrong = pick(d, 0, 0, 50)
		d.units = d.Intn(4) == 0
		f := d.file()
		f.Kids = slices.DeleteFunc(f.Kids, func(t api.Tree) bool { return t.Kind == api.DUnit })
		f.Kids = append(f.Kids, named(api.DUnit, "m"), named(api.DUnit, "s"))
		want := answer(f)
		if strings.HasPrefix(want, "0 ") {
			told++
		}
		for range 3 {
			other := d.others(f)
			if got := answer(other); got != want {
				t.Fatalf("%s: %s; of %s: %s", printed(f), want, printed(other), got)
			}
		}
	}
	if told < 100 {
		t.Error(told)
	}
}

// links is a file with many connections, and hardly anything else.
func (d drawn) links() api.Tree {
	connectors := []api.Tree{
		connector("P", variable("e", 0, false), variable("f", 0, true)),
		connector("Q", variable("f", 0, true)),
		connector("E", variable("e", 0, false)),
	}
	classes := slices.Clone(connectors)
	for i := range 2 + d.Intn(2) {
		class := model(fmt.Sprint("C", i))
		for j := range 2 + d.Intn(2) {
			class.Kids = append(class.Kids, part(fmt.Sprint("p", j), pick(d, 0, 1, 2), pick(d, classes...).Name))
		}
		m := made{d, map[string]api.Tree{}, class}
		for _, c := range classes {
			m.classes[c.Name] = c
		}
		for range d.Intn(6) {
			if c, ok := m.connect(nil); ok {
				class.Kids = append(class.Kids, c)
			}
		}
		if len(ofKind(class.Kids, api.IConnect)) > 0 && d.Intn(2) == 0 {
			class.Kids = append(class.Kids, loop("i", 1, 2, ofKind(class.Kids, api.IConnect)[0]), equation(number(1), number(2)))
		}
		classes = append(classes, class)
	}
	return copied(file(classes...))
}

// turned has some connections' ends in the other order.
func (d drawn) turned(f api.Tree) api.Tree {
	f = copied(f)
	for _, c := range nodesOf(&f, api.IConnect) {
		if d.Intn(2) == 0 {
			c.Kids[0], c.Kids[1] = c.Kids[1], c.Kids[0]
		}
	}
	return f
}

// twice has some connections again, behind where they stand.
func (d drawn) twice(f api.Tree) api.Tree {
	f = copied(f)
	for _, around := range nodesOf(&f, api.DClass, api.IFor) {
		for i := len(around.Kids) - 1; i >= 0; i-- {
			if c := around.Kids[i]; c.Kind == api.IConnect && d.Intn(2) == 0 {
				around.Kids = slices.Insert(around.Kids, i+1+d.Intn(len(around.Kids)-i), c)
			}
		}
	}
	return copied(f)
}

// unordered is a flat model's text without the order of members: levels become lists of what is the same, flows sums in order.
func unordered(f api.Flat) string {
	var flows []string
	same := map[string]string{} // to one of a lesser name, or to itself
	var least func(name string) string
	least = func(name string) string {
		if next, ok := same[name]; ok && next != name {
			return least(next)
		}
		same[name] = name
		return name
	}
	text := strings.Split(written(f), "|")
	for _, eq := range strings.Split(text[1], ";") {
		words := strings.Fields(eq)
		if len(words) == 3 && words[2] == "-" {
			a, b := least(words[0]), least(words[1])
			same[max(a, b)] = min(a, b)
			continue
		}
		flows = append(flows, terms(words))
	}
	slices.Sort(flows)
	var levels []string
	for name := range maps.Clone(same) {
		levels = append(levels, name+" = "+least(name))
	}
	slices.Sort(levels)
	return fmt.Sprint(len(f.Eqs), len(f.Nodes), text[0], flows, levels, text[2])
}

// terms are a sum's, in order.
func terms(words []string) string {
	var list []string
	for _, word := range words {
		switch word {
		case "neg":
			list[len(list)-1] += " neg"
		case "+":
		default:
			list = append(list, word)
		}
	}
	slices.Sort(list)
	return fmt.Sprint(list)
}

// A connection's ends can change places, but for the order of members; written twice it is one.
func TestConnectionsTurned(t *testing.T) {
	t.Parallel()
	told, others := 0, 0
	for seed := range int64(500) {
		d := draw(400000 + seed)
		f := d.links()
		want, e := flatTree(t, f)
		if t.Failed() {
			return
		}
		if e == api.OK && strings.Contains(written(want), "-") {
			told++
		}
		for range 3 {
			turned, twice := d.turned(f), d.twice(f)
			got, e2 := flatten.Flatten(turned)
			if e2 != e || unordered(got) != unordered(want) {
				t.Fatalf("%s: %d %s; turned %s: %d %s", printed(f), e, written(want), printed(turned), e2, written(got))
			}
			if !same(got, want) {
				others++
			}
			if got, e2 := flatten.Flatten(twice); e2 != e || !same(got, want) {
				t.Fatalf("%s: %d %s; twice %s: %d %s", printed(f), e, written(want), printed(twice), e2, written(got))
			}
		}
	}
	if told < 200 || others < 200 {
		t.Error(told, others)
	}
}
