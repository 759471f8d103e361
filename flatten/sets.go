package flatten

import "orrery/api"

// member is a connector at a side.
type member struct {
	at    *instance
	inner bool
}

// sets are members that are connected.
type sets struct {
	members []member       // in the order in which they were met
	places  map[member]int // in that order
	first   []int          // of each member: the place of its set's first one, which tells the set
}

func newSets() sets { return sets{places: map[member]int{}} }

// join makes one set of those of two members.
func (s *sets) join(a, b member) {
	one, other := s.setOf(a), s.setOf(b)
	for at, first := range s.first {
		if first == one || first == other {
			s.first[at] = min(one, other)
		}
	}
}

// setOf is a member's, which is a set by itself, if it wasn't met yet.
func (s *sets) setOf(m member) int {
	at, met := s.places[m]
	if !met {
		at = len(s.members)
		s.members = append(s.members, m)
		s.places[m] = at
		s.first = append(s.first, at)
	}
	return s.first[at]
}

func (s *sets) has(m member) bool {
	_, met := s.places[m]
	return met
}

// all are the members of each set.
func (s *sets) all() [][]member {
	lists := make([][]member, len(s.members)) // at the place of the first one
	for at, m := range s.members {
		lists[s.first[at]] = append(lists[s.first[at]], m)
	}
	return lists
}

// connected makes the equations of all sets.
func (w *whole) connected() {
	for _, set := range w.sets.all() {
		if len(set) == 0 { // those whose first member is another one's
			continue
		}
		for _, d := range set[0].at.of.items {
			if d.Flag {
				w.graph.flows(set, d.Name)
			} else {
				w.graph.levels(set, d.Name)
			}
		}
	}
}

// levels says that a variable is the same at all members.
func (g *graph) levels(set []member, name string) {
	for _, m := range set[1:] {
		a, b := g.variable(set[0].variable(name), 0), g.variable(m.variable(name), 0)
		g.equation(g.put(api.Node{Kind: api.TSub, A: a, B: b}))
	}
}

// flows says that all of them together are nought: what flows into an instance from outside flows out of it within.
func (g *graph) flows(set []member, name string) {
	sum := 0
	for i, m := range set {
		this := g.variable(m.variable(name), 0)
		if !m.inner {
			this = g.put(api.Node{Kind: api.TNeg, A: this})
		}
		if i > 0 {
			this = g.put(api.Node{Kind: api.TAdd, A: sum, B: this})
		}
		sum = this
	}
	g.equation(sum)
}

func (m member) variable(name string) int { return m.at.items[name].first }

// unconnected says that nothing flows through connectors to which nothing comes from outside of their instance. What is directly in the main one has no outside.
func (w *whole) unconnected() {
	for _, in := range w.instances {
		if !in.of.connector || in.at.outside == w.instances[0] || w.sets.has(member{in, true}) {
			continue
		}
		for _, d := range in.of.items {
			if d.Flag {
				w.graph.equation(w.graph.variable(in.items[d.Name].first, 0))
			}
		}
	}
}
