package unit

import (
	"orrery/api"
	"orrery/parse"
)

// Units are a file's: their names, and dimensions.
func Units(file api.Tree) ([]string, []api.Dim, api.Errno) {
	if parse.Right(file) != api.OK {
		return nil, nil, api.ErrTree
	}
	found, err := tried(func() units { return unitsOf(file) })
	return found.names, found.dims, err
}

// Of is the dimension that a tree writes, with units of these names and dimensions.
func Of(t api.Tree, names []string, dims []api.Dim) (api.Dim, api.Errno) {
	if len(names) != len(dims) {
		return api.Dim{}, api.ErrArg
	}
	known := newUnits()
	for i, name := range names {
		if !Right(dims[i]) {
			return api.Dim{}, api.ErrArg
		}
		known.put(name, dims[i])
	}
	return tried(func() api.Dim { return known.written(t) })
}

// units are names and dimensions, in order.
type units struct {
	names  []string
	dims   []api.Dim
	places map[string]int // of each name its first one
}

func newUnits() units { return units{places: map[string]int{}} }

func (u *units) put(name string, d api.Dim) {
	if !u.has(name) {
		u.places[name] = len(u.names)
	}
	u.names = append(u.names, name)
	u.dims = append(u.dims, d)
}

func (u *units) has(name string) bool {
	_, ok := u.places[name]
	return ok
}

func unitsOf(file api.Tree) units {
	found, bases := newUnits(), 0
	for _, t := range file.Kids {
		if t.Kind != api.DUnit {
			continue
		}
		if found.has(t.Name) {
			panic(stop{api.ErrTwice})
		}
		if len(t.Kids) > 0 {
			found.put(t.Name, found.written(t.Kids[0]))
			continue
		}
		found.put(t.Name, base(bases))
		bases++
	}
	return found
}

// base is the dimension of the base unit behind so many others.
func base(ahead int) api.Dim {
	if ahead == api.MaxBases {
		panic(stop{api.ErrLong})
	}
	d := Plain()
	d.E[ahead] = whole(1)
	return d
}
