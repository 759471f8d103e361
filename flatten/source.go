package flatten

import (
	"slices"

	"orrery/api"
	"orrery/check"
	"orrery/unit"
)

const model = 1 // N of a DClass that is no connector

// source is a file that was checked.
type source struct {
	file    api.Tree
	units   []string
	dims    []api.Dim
	classes map[string]*class // those that were needed yet
}

// class is one of the file's.
type class struct {
	connector bool
	items     []declared
}

// declared is an item of a class, with the dimension that it gives, if it gives one.
type declared struct {
	api.Tree
	dim   api.Dim
	given bool
}

func newSource(file api.Tree) *source {
	names, dims, _ := unit.Units(file) // no error: what was checked has units
	return &source{file, names, dims, map[string]*class{}}
}

// main is the name of the last model.
func (s *source) main() string {
	for _, t := range slices.Backward(s.file.Kids) {
		if t.Kind == api.DClass && t.N == model {
			return t.Name
		}
	}
	panic(stop{api.ErrName})
}

// class makes each but once: what dimensions it gives is the same for all its instances.
func (s *source) class(name string) *class {
	if c, ok := s.classes[name]; ok {
		return c
	}
	t, _ := check.Class(s.file, name)
	c := &class{connector: t.N != model}
	for _, item := range t.Kids {
		c.items = append(c.items, s.declared(item))
	}
	s.classes[name] = c
	return c
}

func (s *source) declared(item api.Tree) declared {
	d := declared{Tree: item, dim: unit.Plain()}
	if item.Kind != api.IParam && item.Kind != api.IVar {
		return d
	}
	for _, written := range item.Kids[0].Kids { // one, or none
		d.dim, d.given = must(unit.Of(written, s.units, s.dims)), true
	}
	return d
}

// second is the dimension of time.
func (s *source) second() api.Dim {
	if at := slices.Index(s.units, "s"); at >= 0 {
		return s.dims[at]
	}
	return unit.Plain()
}
