package parse

import "orrery/api"

// measure panics with a stop: ErrDeep, if more than MaxDepth nodes are within one another; with long, if there are more than MaxTokens.
func measure(t api.Tree, long api.Errno) {
	levelsWithin(map[list]int{}, t.Kids, 1)
	countOff(t, api.MaxTokens, long)
}

// list tells one list of Kids from another one.
type list struct {
	first *api.Tree
	n     int
}

// levelsWithin is how many levels of nodes a list has, that are within so many others. Lists may be at many places of a tree at once (and even within themselves): each is gone through once, or a tree of little memory could take nearly for ever.
func levelsWithin(known map[list]int, kids []api.Tree, above int) int {
	if len(kids) == 0 {
		return 0
	}
	if above == api.MaxDepth {
		panic(stop{err: api.ErrDeep})
	}
	this := list{&kids[0], len(kids)}
	levels, ok := known[this]
	if !ok {
		for _, kid := range kids {
			levels = max(levels, 1+levelsWithin(known, kid.Kids, above+1))
		}
		known[this] = levels
	}
	if above+levels > api.MaxDepth {
		panic(stop{err: api.ErrDeep})
	}
	return levels
}

// countOff takes a tree's nodes off a number, and panics with a stop if they are more.
func countOff(t api.Tree, left int, long api.Errno) int {
	if left == 0 {
		panic(stop{err: long})
	}
	left--
	for _, kid := range t.Kids {
		left = countOff(kid, left, long)
	}
	return left
}
