package check_test

// The chapter's words, each gone through by itself: all that is wrong with a file is listed, each with the place that its promise gives it, and the least place tells.

import (
	"slices"
	"strings"

	"orrery/api"
	"orrery/parse"
	"orrery/unit"
)

// place is held against others number by number, from the left; what is missing is least.
type place []int

func (p place) then(n ...int) place { return append(slices.Clone(p), n...) }

type fault struct {
	at    place
	err   api.Errno
	class string
}

type faults struct{ list []fault }

func (f *faults) put(at place, e api.Errno, class string) {
	if e != api.OK {
		f.list = append(f.list, fault{at, e, class})
	}
}

// wanted is what Check must tell.
func wanted(file api.Tree) (api.Errno, string) {
	var f faults
	f.put(place{0}, parse.Right(file), "")
	if len(f.list) == 0 {
		names, dims, e := unit.Units(file)
		f.put(place{1}, e, "")
		if e == api.OK {
			w := world{classes: classes(file), names: names, dims: dims, faults: &f}
			w.judge()
		}
	}
	if len(f.list) == 0 {
		return api.OK, ""
	}
	least := slices.MinFunc(f.list, func(a, b fault) int { return slices.Compare(a.at, b.at) })
	return least.err, least.class
}

type world struct {
	classes []api.Tree
	names   []string
	dims    []api.Dim
	faults  *faults
}

func classes(file api.Tree) []api.Tree {
	return slices.DeleteFunc(slices.Clone(file.Kids), func(t api.Tree) bool { return t.Kind != api.DClass })
}

func (w world) judge() {
	if len(w.classes) > 40 {
		w.faults.put(place{2}, api.ErrLong, "")
	}
	reach := w.reached()
	for i, c := range w.classes {
		for j := range i {
			if w.classes[j].Name == c.Name {
				w.faults.put(place{3, i}, api.ErrTwice, c.Name)
			}
		}
		for j, item := range c.Kids {
			w.item(c, item, place{4, i, j}, c.Kids[:j])
		}
		if reach[c.Name+" "+c.Name] {
			w.faults.put(place{5, i}, api.ErrCycle, c.Name)
		}
	}
}

// reached has "a b", if a has, by its parts and so on, a part of class b: each class is let stand between, once.
func (w world) reached() map[string]bool {
	r := map[string]bool{}
	for _, c := range w.classes {
		for _, item := range c.Kids {
			if item.Kind == api.IPart {
				r[c.Name+" "+item.Alias] = true
			}
		}
	}
	for _, between := range w.classes {
		for _, a := range w.classes {
			for _, b := range w.classes {
				if r[a.Name+" "+between.Name] && r[between.Name+" "+b.Name] {
					r[a.Name+" "+b.Name] = true
				}
			}
		}
	}
	return r
}

func hasName(kind int) bool { return kind == api.IParam || kind == api.IVar || kind == api.IPart }

// params are the names of those of these items that are IParams.
func params(items []api.Tree) []string {
	var names []string
	for _, item := range items {
		if item.Kind == api.IParam {
			names = append(names, item.Name)
		}
	}
	return names
}

func (w world) item(class, item api.Tree, at place, ahead []api.Tree) {
	put := func(e api.Errno, n ...int) { w.faults.put(at.then(n...), e, class.Name) }
	isVar := item.Kind == api.IVar
	if class.N == 2 && (!isVar || item.N != 0) || class.N == 1 && isVar && item.Flag {
		put(api.ErrClass, 0)
	}
	if hasName(item.Kind) && slices.ContainsFunc(ahead, func(t api.Tree) bool { return hasName(t.Kind) && t.Name == item.Name }) {
		put(api.ErrTwice, 1)
	}
	if (isVar || item.Kind == api.IPart) && item.N > 16 {
		put(api.ErrLong, 2)
	}
	if isVar || item.Kind == api.IParam {
		for _, dim := range item.Kids[0].Kids {
			_, e := unit.Of(dim, w.names, w.dims)
			put(e, 3)
		}
	}
	switch item.Kind {
	case api.IParam:
		put(notConstant(item.Kids[1], params(ahead)), 4)
	case api.IStart:
		put(notConstant(item.Kids[1], params(class.Kids)), 4, 1)
		put(notConstant(item.Kids[2], params(class.Kids)), 4, 2)
	case api.IPart:
		w.part(class, item, put)
	case api.IFor:
		if item.M-item.N >= 16 {
			put(api.ErrLong, 4)
		}
		for i, kid := range item.Kids {
			w.item(class, kid, at.then(5, i), ahead)
		}
	}
}

func (w world) part(class, item api.Tree, put func(e api.Errno, n ...int)) {
	at := slices.IndexFunc(w.classes, func(t api.Tree) bool { return t.Name == item.Alias })
	if at < 0 {
		put(api.ErrName, 4)
		return
	}
	for i, mod := range item.Kids {
		for _, other := range item.Kids[:i] {
			if other.Name == mod.Name {
				put(api.ErrTwice, 5, i, 0)
			}
		}
		if !slices.Contains(params(w.classes[at].Kids), mod.Name) {
			put(api.ErrName, 5, i, 1)
		}
		put(notConstant(mod.Kids[0], params(class.Kids)), 5, i, 2)
	}
}

// notConstant lays the nodes out in a row, and looks for the first one that is not among those that may stand.
func notConstant(t api.Tree, over []string) api.Errno {
	for _, node := range row(t) {
		switch kind, rest, _ := strings.Cut(node, " "); {
		case kind == "plain":
		case kind == "other":
			return api.ErrClass
		case !slices.Contains(over, rest):
			return api.ErrName
		}
	}
	return api.OK
}

// row tells of each node, ahead of its Kids: plain, other, or ref and the name; a reference that is more than a name is written so that no name is like it.
func row(t api.Tree) []string {
	kinds := map[int]string{1: "plain", 2: "ref", 4: "other", 5: "other", 6: "other", 7: "plain", 8: "plain", 9: "plain", 10: "plain", 11: "plain", 12: "plain"}
	if t.Kind == api.ERef {
		text := "ref"
		for _, el := range t.Kids {
			text += " " + el.Name + strings.Repeat("[]", len(el.Kids))
		}
		return []string{text}
	}
	nodes := []string{kinds[t.Kind]}
	for _, kid := range t.Kids {
		nodes = append(nodes, row(kid)...)
	}
	return nodes
}
