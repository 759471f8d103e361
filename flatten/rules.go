package flatten

import "orrery/api"

const maxRules = 4000

// rulesOf goes through an instance's rules.
func (w *whole) rulesOf(in *instance) {
	for _, d := range in.of.items {
		switch d.Kind {
		case api.IStart, api.IConnect, api.IEquation, api.IFor:
			w.rule(d.Tree, scope{in, noLoop})
		}
	}
}

// rule is counted ahead of being gone through: else loops within loops could go on nearly for ever.
func (w *whole) rule(t api.Tree, s scope) {
	mustHaveRoom(w.rules, maxRules)
	w.rules++
	switch t.Kind {
	case api.IStart:
		w.start(t, s)
	case api.IConnect:
		w.connect(t, s)
	case api.IEquation:
		a, b := w.graph.expression(t.Kids[0], s), w.graph.expression(t.Kids[1], s)
		w.graph.equation(w.graph.put(api.Node{Kind: api.TSub, A: a, B: b}))
	case api.IFor:
		w.loop(t, s)
	}
}

func (w *whole) start(t api.Tree, s scope) {
	ref, k := t.Kids[0], 0
	if ref.Kind == api.EDer {
		ref, k = ref.Kids[0], 1
	}
	key := api.Key{V: s.find(ref).variable(), K: k}
	lo, hi := s.in.number(t.Kids[1]), s.in.number(t.Kids[2])
	w.starts = append(w.starts, api.Start{Key: key, Lo: lo, Hi: hi})
}

func (w *whole) loop(t api.Tree, s scope) {
	for n := t.N; n <= t.M; n++ {
		for _, kid := range t.Kids {
			w.rule(kid, scope{s.in, s.loop.with(t.Name, n)})
		}
	}
}

func (w *whole) connect(t api.Tree, s scope) {
	a, b := s.member(t.Kids[0]), s.member(t.Kids[1])
	if a.at.of != b.at.of {
		panic(stop{api.ErrClass})
	}
	w.sets.join(a, b)
}

// member is a connector, and the side at which a reference comes to it. None is found by way of another one: connectors have no parts.
func (s scope) member(ref api.Tree) member {
	in := s.find(ref).instance()
	if len(ref.Kids) > 2 || !in.of.connector {
		panic(stop{api.ErrClass})
	}
	return member{in, len(ref.Kids) == 2}
}
