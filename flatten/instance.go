package flatten

import (
	"strconv"

	"orrery/api"
)

const maxInstances = 200

// instance is a class at a place in the whole.
type instance struct {
	of    *class
	at    place
	items map[string]*item // all that have names
}

// place is where an instance is, and what is said of its parameters from outside.
type place struct {
	outside *instance // of which it is a part; nil of the main one
	path    string
	mods    map[string]api.Rat
}

// item is what was made of one.
type item struct {
	kind   int         // IParam, IVar or IPart
	size   int         // 0: it is no array
	number api.Rat     // of a parameter
	dim    api.Dim     // of a parameter
	first  int         // of a variable: its number, or that of an array's first one
	parts  []*instance // of a part: one, or an array's
}

// newInstance makes one of a class, and all that are its parts.
func (w *whole) newInstance(of *class, at place) *instance {
	mustHaveRoom(len(w.instances), maxInstances)
	in := &instance{of, at, map[string]*item{}}
	w.instances = append(w.instances, in)
	for _, d := range of.items {
		if d.Kind == api.IParam {
			in.items[d.Name] = &item{kind: d.Kind, number: in.parameter(d), dim: d.dim}
		}
	}
	for _, d := range of.items { // behind all parameters: a modifier may need one that stands behind it
		switch d.Kind {
		case api.IVar:
			in.items[d.Name] = &item{kind: d.Kind, size: d.N, first: w.newVariables(in, d)}
		case api.IPart:
			in.items[d.Name] = &item{kind: d.Kind, size: d.N, parts: w.newParts(in, d)}
		}
	}
	return in
}

// parameter is the number of one; what a modifier says stands for what its class says, which is not asked then.
func (in *instance) parameter(d declared) api.Rat {
	if said, ok := in.at.mods[d.Name]; ok {
		return said
	}
	return in.number(d.Kids[1])
}

// newVariables makes those of an item, and answers the first one's number.
func (w *whole) newVariables(in *instance, d declared) int {
	first := len(w.vars.names)
	for _, name := range in.namesOf(d) {
		w.vars.put(name, d)
	}
	return first
}

// newParts makes an item's instances.
func (w *whole) newParts(in *instance, d declared) []*instance {
	mods := map[string]api.Rat{}
	for _, mod := range d.Kids {
		mods[mod.Name] = in.number(mod.Kids[0])
	}
	var list []*instance
	for _, name := range in.namesOf(d) {
		list = append(list, w.newInstance(w.from.class(d.Alias), place{in, name + ".", mods}))
	}
	return list
}

// namesOf are an item's in the whole.
func (in *instance) namesOf(d declared) []string {
	name := in.at.path + d.Name
	if d.N == 0 {
		return []string{name}
	}
	var names []string
	for i := range d.N {
		names = append(names, name+"["+strconv.Itoa(i+1)+"]")
	}
	return names
}

// variables are all, in the order in which they were made.
type variables struct {
	names []string
	dims  []api.Dim
	given []bool
}

func (v *variables) put(name string, d declared) {
	mustHaveRoom(len(v.names), api.MaxVars)
	v.names = append(v.names, name)
	v.dims = append(v.dims, d.dim)
	v.given = append(v.given, d.given)
}
