package check

import "orrery/api"

// names are those that are known.
type names map[string]struct{}

func (n names) has(name string) bool {
	_, ok := n[name]
	return ok
}

func (n names) put(name string) { n[name] = struct{}{} }

// namedOnce says of trees that are handed one behind the other, whether one ahead has the name.
func namedOnce() why {
	ahead := names{}
	return func(t api.Tree) api.Errno {
		if ahead.has(t.Name) {
			return api.ErrTwice
		}
		ahead.put(t.Name)
		return api.OK
	}
}

// namedAsOneOf says of a tree, whether its name is known.
func namedAsOneOf(known names) why {
	return func(t api.Tree) api.Errno {
		if !known.has(t.Name) {
			return api.ErrName
		}
		return api.OK
	}
}

// parametersOf are a class's.
func parametersOf(class api.Tree) names {
	found := names{}
	for _, item := range class.Kids {
		if item.Kind == api.IParam {
			found.put(item.Name)
		}
	}
	return found
}
