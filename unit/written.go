package unit

import "orrery/api"

// written is the dimension that a tree writes.
func (u *units) written(t api.Tree) api.Dim {
	w := walk{units: u, met: map[*api.Tree]visit{}}
	return w.node(&t)
}

// walk goes through a tree from the left. A node may be at many places of a tree at once: it is gone through once, or a tree of little memory could take nearly for ever.
type walk struct {
	units *units
	met   map[*api.Tree]visit
}

// visit is what is known of a node that was met: nothing, as long as it is still gone through.
type visit struct {
	told bool
	dim  api.Dim
}

func (w *walk) node(t *api.Tree) api.Dim {
	if v, ok := w.met[t]; ok {
		if !v.told { // it is within itself
			panic(stop{api.ErrTree})
		}
		return v.dim
	}
	w.met[t] = visit{}
	d := w.dimension(t)
	w.met[t] = visit{told: true, dim: d}
	return d
}

func (w *walk) dimension(t *api.Tree) api.Dim {
	if len(t.Kids) != kidsOf(t.Kind) {
		panic(stop{api.ErrTree})
	}
	switch t.Kind {
	case api.UName:
		return w.named(t.Name)
	case api.UMul:
		return w.both(t, 1)
	case api.UDiv:
		return w.both(t, -1)
	case api.UPow:
		return must(Times(Plain(), w.node(&t.Kids[0]), t.Num))
	}
	return Plain() // UOne
}

// both is the first Kid, times a power of the second one.
func (w *walk) both(t *api.Tree, power int) api.Dim {
	first := w.node(&t.Kids[0])
	return times(first, w.node(&t.Kids[1]), whole(power))
}

func (w *walk) named(name string) api.Dim {
	if !w.units.has(name) {
		panic(stop{api.ErrName})
	}
	return w.units.dims[w.units.places[name]]
}

// kidsOf is how many Kids a kind has, or less than any number of Kids, if it writes no dimension.
func kidsOf(kind int) int {
	switch kind {
	case api.UOne, api.UName:
		return 0
	case api.UPow:
		return 1
	case api.UMul, api.UDiv:
		return 2
	}
	return -1
}
