package check

import (
	"slices"

	"orrery/api"
)

// mostNodes have more bytes than those of which anything is promised.
const mostNodes = 1 << 25

// copied is the same tree in other memory, with no list at two places. Only if too many nodes come of that, as of a tree that is within itself, lists that are given at many places stay so: each is copied once.
func copied(t api.Tree) api.Tree {
	c := copier{shared: nodesOf(map[kidList]int{}, t.Kids) >= mostNodes, made: map[kidList][]api.Tree{}}
	t.Kids = c.list(t.Kids)
	return t
}

// kidList tells one list of Kids from another one.
type kidList struct {
	first *api.Tree
	n     int
}

// nodesOf is how many nodes a list has at all places, up to mostNodes.
func nodesOf(known map[kidList]int, kids []api.Tree) int {
	if len(kids) == 0 {
		return 0
	}
	this := kidList{&kids[0], len(kids)}
	if n, ok := known[this]; ok {
		return n
	}
	known[this] = mostNodes // if it is within itself
	n := 0
	for _, kid := range kids {
		n = min(mostNodes, n+1+nodesOf(known, kid.Kids))
	}
	known[this] = n
	return n
}

// copier copies lists.
type copier struct {
	shared bool
	made   map[kidList][]api.Tree
}

func (c copier) list(kids []api.Tree) []api.Tree {
	if len(kids) == 0 {
		return nil
	}
	this := kidList{&kids[0], len(kids)}
	if made, ok := c.made[this]; ok {
		return made
	}
	made := slices.Clone(kids)
	if c.shared {
		c.made[this] = made
	}
	for i, kid := range kids {
		made[i].Kids = c.list(kid.Kids)
	}
	return made
}
