package check_test

import (
	"slices"
	"testing"

	"orrery/api"
	"orrery/check"
)

// moved has a file's classes in another order, at the places where classes stood.
func (d drawn) moved(f api.Tree) api.Tree {
	f = copied(f)
	list := classes(f)
	for i, at := range d.Perm(len(list)) {
		list[i], list[at] = list[at], list[i]
	}
	for i := range f.Kids {
		if f.Kids[i].Kind == api.DClass {
			f.Kids[i], list = list[0], list[1:]
		}
	}
	return f
}

// Classes change places, and stand among units as they like.
func TestClassesChangePlaces(t *testing.T) {
	t.Parallel()
	d := draw(3)
	fits := 0
	for range 700 {
		f := d.changed()
		if d.Intn(2) == 0 {
			f = d.file()
		}
		was := checkedOK(f)
		if was {
			fits++
		}
		for range 4 {
			if other := d.moved(f); checkedOK(other) != was {
				e, name := check.Check(other)
				t.Fatalf("%v: %d %q; it was %t in the order %v", other, e, name, was, f)
			}
		}
		if was {
			for i := range f.Kids { // one class at each place, units beside it
				if f.Kids[i].Kind == api.DClass {
					checkTree(t, file(append(slices.Delete(slices.Clone(f.Kids), i, i+1), f.Kids[i])...), api.OK, "")
					checkTree(t, file(append([]api.Tree{f.Kids[i]}, slices.Delete(slices.Clone(f.Kids), i, i+1)...)...), api.OK, "")
				}
			}
		}
	}
	if fits < 300 || fits > 650 {
		t.Error(fits)
	}
}

// A class that nobody names, at each place, changes nothing: neither of a file that fits nor of one that does not.
func TestClassThatNobodyNames(t *testing.T) {
	t.Parallel()
	d := draw(4)
	for range 700 {
		f := d.changed()
		if d.Intn(2) == 0 {
			f = d.file()
		}
		extra := pick(d, withoutDimensions(d.model("Extra", classes(f))), connector("Extra", variable("x", 0, true)), model("Extra"))
		e, name := check.Check(f)
		for i := range len(f.Kids) + 1 {
			checkTree(t, file(slices.Insert(slices.Clone(f.Kids), i, extra)...), e, name)
		}
		if t.Failed() {
			return
		}
	}
}

// withoutDimensions is a class for files that may lack some units.
func withoutDimensions(class api.Tree) api.Tree {
	class = copied(class)
	for i := range class.Kids {
		if item := &class.Kids[i]; item.Kind == api.IParam || item.Kind == api.IVar {
			item.Kids[0].Kids = nil
		}
	}
	return class
}

// What nobody names may go, too.
func TestClassThatNobodyNamesGoes(t *testing.T) {
	t.Parallel()
	d := draw(5)
	gone := 0
	for range 700 {
		f := d.file()
		named := map[string]bool{}
		for _, class := range classes(f) {
			for _, item := range class.Kids {
				named[item.Alias] = true
			}
		}
		for i, class := range f.Kids {
			if class.Kind == api.DClass && !named[class.Name] {
				checkTree(t, file(slices.Delete(slices.Clone(f.Kids), i, i+1)...), api.OK, "")
				gone++
			}
		}
	}
	if gone < 700 {
		t.Error(gone)
	}
}

// Of a checked file each part's class is there, and no class is a part of itself.
func TestOfCheckedFiles(t *testing.T) {
	t.Parallel()
	d := draw(6)
	parts := 0
	for range 4000 {
		f := d.changed()
		if !checkedOK(f) {
			continue
		}
		for _, class := range classes(f) {
			parts += partsBelow(t, f, class, []string{class.Name})
		}
	}
	if parts < 1500 {
		t.Error(parts)
	}
}

// partsBelow goes along all ways from a class to its parts, theirs, and so on; no way may come to a class twice.
func partsBelow(t *testing.T, f, class api.Tree, way []string) int {
	t.Helper()
	found := 0
	for _, item := range class.Kids {
		if item.Kind != api.IPart {
			continue
		}
		next, ok := check.Class(f, item.Alias)
		if !ok || next.Name != item.Alias || slices.Contains(way, item.Alias) {
			t.Fatalf("%v: %s of %v: %t", f, item.Alias, way, ok)
		}
		found += 1 + partsBelow(t, f, next, append(slices.Clone(way), item.Alias))
	}
	return found
}

// The same by hand.
func TestPlacesOfClasses(t *testing.T) {
	for text, want := range map[string]said{
		"model A part b: B(k = 2); end; model B param k = 1; part p: P; end; connector P var e; flow f: m; end; unit m;": {api.OK, ""},
		"model A part b: B(j = 2); end; model B param k = 1; part p: P; end; connector P var e; flow f: m; end; unit m;": {api.ErrName, "A"},
		"model A part b: B(k = 2); end; model B param k = 1; part p: Q; end; connector P var e; flow f: m; end; unit m;": {api.ErrName, "B"},
		"model A part b: B(k = 2); end; model B param k = 1; part p: P; end; connector P var e; param f = 1; end;":       {api.ErrClass, "P"},
		"model A part b: B(k = 2); end; model B param k = 1; part p: B; end; connector P var e; end;":                    {api.ErrCycle, "B"},
	} {
		f := parsed(t, text)
		for _, order := range [][]int{{0, 1, 2}, {0, 2, 1}, {1, 0, 2}, {1, 2, 0}, {2, 0, 1}, {2, 1, 0}} {
			other := file(f.Kids[order[0]], f.Kids[order[1]], f.Kids[order[2]])
			other.Kids = append(other.Kids, f.Kids[3:]...)
			checkTree(t, other, want.e, want.class)
			for i := range len(other.Kids) + 1 {
				extra := pick(draw(int64(i)), model("X"), model("X", part("b", "B")), connector("X", variable("e", 0, true)))
				checkTree(t, file(slices.Insert(slices.Clone(other.Kids), i, extra)...), want.e, want.class)
			}
		}
	}
}
