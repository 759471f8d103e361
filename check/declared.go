package check

import (
	"orrery/api"
	"orrery/unit"
)

// declared is what a file has: its classes by their names, its units and their dimensions.
type declared struct {
	classes map[string]api.Tree
	units   []string
	dims    []api.Dim
}

func byName(list []api.Tree) map[string]api.Tree {
	classes := map[string]api.Tree{}
	for _, class := range list {
		classes[class.Name] = class
	}
	return classes
}

// dimension says why units don't tell what a tree writes.
func (f declared) dimension(t api.Tree) api.Errno {
	_, err := unit.Of(t, f.units, f.dims)
	return err
}

// withoutItself says whether a class, by its parts, their parts, and so on, has a part of itself.
func (f declared) withoutItself(class api.Tree) api.Errno {
	met := names{} // or classes with many parts each would be gone through nearly for ever
	var item why
	item = func(t api.Tree) api.Errno {
		if t.Kind != api.IPart || met.has(t.Alias) {
			return api.OK
		}
		if t.Alias == class.Name {
			return api.ErrCycle
		}
		met.put(t.Alias)
		return within(f.classes[t.Alias].Kids, item)
	}
	return within(class.Kids, item)
}
