package flatten_test

import (
	"testing"

	"orrery/api"
)

// ports has connectors: R has one, S two in an array, T an R and a P within.
const ports = "connector P var e; flow f; end; connector Q var e; flow f; end; model R part p: P; end; model S part p[2]: P; part q: Q; end; model T part p: P; part r: R; connect(p, r.p); end;"

// named are variables of connectors, in order.
func variablesOf(paths ...string) string {
	s := ""
	for _, p := range paths {
		s += p + ".e " + p + ".f "
	}
	return s
}

func TestConnections(t *testing.T) {
	abc := "model A part a: R; part b: R; part c: R; part d: R; "
	vars := variablesOf("a.p", "b.p", "c.p", "d.p") + "| "
	rows := map[string]any{}
	for rules, want := range map[string]string{
		"":                                                         "a.p.f ; b.p.f ; c.p.f ; d.p.f ; ",
		"connect(a.p, b.p);":                                       "a.p.e b.p.e - ; a.p.f b.p.f + ; c.p.f ; d.p.f ; ",
		"connect(b.p, a.p);":                                       "b.p.e a.p.e - ; b.p.f a.p.f + ; c.p.f ; d.p.f ; ",
		"connect(a.p, b.p); connect(a.p, b.p);":                    "a.p.e b.p.e - ; a.p.f b.p.f + ; c.p.f ; d.p.f ; ",
		"connect(a.p, b.p); connect(b.p, a.p);":                    "a.p.e b.p.e - ; a.p.f b.p.f + ; c.p.f ; d.p.f ; ",
		"connect(b.p, b.p);":                                       "b.p.f ; a.p.f ; c.p.f ; d.p.f ; ",
		"connect(b.p, b.p); connect(b.p, a.p);":                    "b.p.e a.p.e - ; b.p.f a.p.f + ; c.p.f ; d.p.f ; ",
		"connect(a.p, b.p); connect(b.p, c.p);":                    "a.p.e b.p.e - ; a.p.e c.p.e - ; a.p.f b.p.f + c.p.f + ; d.p.f ; ",
		"connect(a.p, b.p); connect(c.p, b.p);":                    "a.p.e b.p.e - ; a.p.e c.p.e - ; a.p.f b.p.f + c.p.f + ; d.p.f ; ",
		"connect(c.p, b.p); connect(a.p, c.p);":                    "c.p.e b.p.e - ; c.p.e a.p.e - ; c.p.f b.p.f + a.p.f + ; d.p.f ; ",
		"connect(a.p, b.p); connect(c.p, d.p);":                    "a.p.e b.p.e - ; a.p.f b.p.f + ; c.p.e d.p.e - ; c.p.f d.p.f + ; ",
		"connect(d.p, c.p); connect(b.p, a.p);":                    "d.p.e c.p.e - ; d.p.f c.p.f + ; b.p.e a.p.e - ; b.p.f a.p.f + ; ",
		"connect(d.p, c.p); connect(b.p, a.p); connect(a.p, d.p);": "d.p.e c.p.e - ; d.p.e b.p.e - ; d.p.e a.p.e - ; d.p.f c.p.f + b.p.f + a.p.f + ; ",
		"connect(a.p, b.p); connect(c.p, d.p); connect(d.p, b.p);": "a.p.e b.p.e - ; a.p.e c.p.e - ; a.p.e d.p.e - ; a.p.f b.p.f + c.p.f + d.p.f + ; ",
		"connect(a.p, b.p); connect(b.p, c.p); connect(c.p, a.p);": "a.p.e b.p.e - ; a.p.e c.p.e - ; a.p.f b.p.f + c.p.f + ; d.p.f ; ",
	} {
		rows[ports+abc+rules+" end;"] = vars + want + "|"
	}
	flatTexts(t, rows)
}

// The side is outer with one part of a reference, and inner with two.
func TestSides(t *testing.T) {
	flatTexts(t, map[string]any{
		ports + "model A part p: P; part a: R; connect(p, a.p); end;":                                variablesOf("p", "a.p") + "| p.e a.p.e - ; p.f neg a.p.f + ; |",
		ports + "model A part p: P; part a: R; connect(a.p, p); end;":                                variablesOf("p", "a.p") + "| a.p.e p.e - ; a.p.f p.f neg + ; |",
		ports + "model A part p: P; part q: P; connect(p, q); end;":                                  variablesOf("p", "q") + "| p.e q.e - ; p.f neg q.f neg + ; |",
		ports + "model A part p: P; part q: P; end;":                                                 variablesOf("p", "q") + "| |",
		ports + "model A part p: P; connect(p, p); end;":                                             variablesOf("p") + "| p.f neg ; |",
		ports + "model A part a: T; end;":                                                            variablesOf("a.p", "a.r.p") + "| a.p.e a.r.p.e - ; a.p.f neg a.r.p.f + ; a.p.f ; |",
		ports + "model A part a: T; part b: R; connect(a.p, b.p); end;":                              variablesOf("a.p", "a.r.p", "b.p") + "| a.p.e b.p.e - ; a.p.f b.p.f + ; a.p.e a.r.p.e - ; a.p.f neg a.r.p.f + ; |",
		ports + "model A part a: S; end;":                                                            variablesOf("a.p[1]", "a.p[2]", "a.q") + "| a.p[1].f ; a.p[2].f ; a.q.f ; |",
		ports + "model A part a: S; connect(a.p[2], a.p[1]); end;":                                   variablesOf("a.p[1]", "a.p[2]", "a.q") + "| a.p[2].e a.p[1].e - ; a.p[2].f a.p[1].f + ; a.q.f ; |",
		ports + "model A part a[2]: S; for i in 1..2 do connect(a[1].p[i], a[2].p[i]); end; end;":    variablesOf("a[1].p[1]", "a[1].p[2]", "a[1].q", "a[2].p[1]", "a[2].p[2]", "a[2].q") + "| a[1].p[1].e a[2].p[1].e - ; a[1].p[1].f a[2].p[1].f + ; a[1].p[2].e a[2].p[2].e - ; a[1].p[2].f a[2].p[2].f + ; a[1].q.f ; a[2].q.f ; |",
		ports + "model A part p[3]: P; for i in 1..2 do connect(p[i], p[i + 1]); end; end;":          variablesOf("p[1]", "p[2]", "p[3]") + "| p[1].e p[2].e - ; p[1].e p[3].e - ; p[1].f neg p[2].f neg + p[3].f neg + ; |",
		ports + "model A part a: S; part q: Q; part p: P; connect(q, a.q); connect(a.p[1], p); end;": variablesOf("a.p[1]", "a.p[2]", "a.q", "q", "p") + "| q.e a.q.e - ; q.f neg a.q.f + ; a.p[1].e p.e - ; a.p[1].f p.f neg + ; a.p[2].f ; |",
		// a connector is at both sides, each in a set of its own
		ports + "model B part p: P; part q: P; connect(p, q); end; model A part a: B; part b: B; connect(a.p, b.q); end;": variablesOf("a.p", "a.q", "b.p", "b.q") + "| a.p.e b.q.e - ; a.p.f b.q.f + ; a.p.e a.q.e - ; a.p.f neg a.q.f neg + ; b.p.e b.q.e - ; b.p.f neg b.q.f neg + ; a.q.f ; b.p.f ; |",
		// connected within only, two levels down
		ports + "model B part a: T; end; model A part b: B; end;": variablesOf("b.a.p", "b.a.r.p") + "| b.a.p.e b.a.r.p.e - ; b.a.p.f neg b.a.r.p.f + ; b.a.p.f ; |",
	})
}

// All variables of a connector, in their order, set by set.
func TestVariablesOfConnectors(t *testing.T) {
	c := "connector P flow f; var e; flow g; var h; end; connector E var e; end; connector F flow f; end; connector N end; "
	m := c + "model B part p: P; part e: E; part f: F; part n: N; end; model A part a: B; part b: B; "
	vars := "a.p.f a.p.e a.p.g a.p.h a.e.e a.f.f b.p.f b.p.e b.p.g b.p.h b.e.e b.f.f | "
	flatTexts(t, map[string]any{
		m + "end;":                    vars + "a.p.f ; a.p.g ; a.f.f ; b.p.f ; b.p.g ; b.f.f ; |",
		m + "connect(a.p, b.p); end;": vars + "a.p.f b.p.f + ; a.p.e b.p.e - ; a.p.g b.p.g + ; a.p.h b.p.h - ; a.f.f ; b.f.f ; |",
		m + "connect(a.e, b.e); end;": vars + "a.e.e b.e.e - ; a.p.f ; a.p.g ; a.f.f ; b.p.f ; b.p.g ; b.f.f ; |",
		m + "connect(a.f, b.f); end;": vars + "a.f.f b.f.f + ; a.p.f ; a.p.g ; b.p.f ; b.p.g ; |",
		m + "connect(a.n, b.n); end;": vars + "a.p.f ; a.p.g ; a.f.f ; b.p.f ; b.p.g ; b.f.f ; |",
		m + "connect(a.e, a.e); end;": vars + "a.p.f ; a.p.g ; a.f.f ; b.p.f ; b.p.g ; b.f.f ; |",
		m + "b.p.f = 1; connect(b.f, a.f); a.e.e = 2; connect(b.p, a.p); end;": vars + "b.p.f 1 - ; a.e.e 2 - ; b.f.f a.f.f + ; b.p.f a.p.f + ; b.p.e a.p.e - ; b.p.g a.p.g + ; b.p.h a.p.h - ; |",
	})
}

// What can't be connected, and which error comes first.
func TestWrongConnections(t *testing.T) {
	rows := map[string]any{}
	for rule, e := range map[string]api.Errno{
		"connect(x, p);":                            api.ErrClass, // a variable
		"connect(p, x);":                            api.ErrClass,
		"connect(k, p);":                            api.ErrClass, // a parameter
		"connect(p, k);":                            api.ErrClass,
		"connect(a, p);":                            api.ErrClass, // an instance of a model
		"connect(p, a);":                            api.ErrClass,
		"connect(a, a);":                            api.ErrClass,
		"connect(t.r, p);":                          api.ErrClass,
		"connect(p, t.r);":                          api.ErrClass,
		"connect(t.r.p, p);":                        api.ErrClass, // more than two parts
		"connect(p, t.r.p);":                        api.ErrClass,
		"connect(t.r.p, t.r.p);":                    api.ErrClass,
		"connect(p.e, p);":                          api.ErrClass, // by way of a connector
		"connect(p, p.f);":                          api.ErrClass,
		"connect(p.p, p);":                          api.ErrName,
		"connect(a.p.p, p);":                        api.ErrName,
		"connect(a.p.e, p);":                        api.ErrClass,
		"connect(p, q);":                            api.ErrClass, // of two classes
		"connect(s.q, p);":                          api.ErrClass,
		"connect(s.q, s.p[1]);":                     api.ErrClass,
		"connect(y, p);":                            api.ErrName,
		"connect(p, y);":                            api.ErrName,
		"connect(a.y, p);":                          api.ErrName,
		"connect(s.p, p);":                          api.ErrIndex,
		"connect(p, s.p[3]);":                       api.ErrIndex,
		"connect(p[1], p);":                         api.ErrIndex,
		"connect(p, s.p[i]);":                       api.ErrName,
		"connect(x, y);":                            api.ErrClass, // the first one ahead of the second one
		"connect(y, x);":                            api.ErrName,
		"connect(p[1], y);":                         api.ErrIndex,
		"connect(t.r.p, y);":                        api.ErrClass,
		"connect(t.r.z, x);":                        api.ErrName,
		"connect(t.r.z, p[1]);":                     api.ErrName,
		"connect(a, p[1]);":                         api.ErrClass,
		"connect(q, y);":                            api.ErrName,
		"connect(p, p[1]);":                         api.ErrIndex,
		"connect(p, t.r.z);":                        api.ErrName,
		"connect(q, t.r.p);":                        api.ErrClass,
		"connect(p, q); x = y;":                     api.ErrClass,
		"x = y; connect(p, q);":                     api.ErrName,
		"for i in 1..3 do connect(p, s.p[i]); end;": api.ErrIndex,
	} {
		rows[ports+"model A param k = 1; var x; part p: P; part q: Q; part a: R; part s: S; part t: T; "+rule+" end;"] = e
	}
	flatTexts(t, rows)
}

// Rules of parts come to connections, too, in the order of instances.
func TestConnectionsWithin(t *testing.T) {
	b := "model B part p: P; part a: R; part b: R; connect(a.p, b.p); connect(p, b.p); end; "
	within := func(path string) string {
		return path + "a.p.e " + path + "b.p.e - ; " + path + "a.p.e " + path + "p.e - ; " + path + "a.p.f " + path + "b.p.f + " + path + "p.f neg + ; "
	}
	vars := variablesOf("x.p", "x.a.p", "x.b.p", "y.p", "y.a.p", "y.b.p") + "| "
	flatTexts(t, map[string]any{
		ports + b + "model A part x: B; part y: B; end;":                                            vars + within("x.") + within("y.") + "x.p.f ; y.p.f ; |",
		ports + b + "model A part x: B; part y: B; connect(y.p, x.p); end;":                         vars + "y.p.e x.p.e - ; y.p.f x.p.f + ; " + within("x.") + within("y.") + "|",
		ports + b + "model A part x: B; part y: B; connect(x.p, y.p); x.p.f = 1; end;":              vars + "x.p.f 1 - ; x.p.e y.p.e - ; x.p.f y.p.f + ; " + within("x.") + within("y.") + "|",
		ports + b + "model C part c: B; end; model A part x: B; part c: C; connect(x.p, c.c); end;": api.ErrClass,
	})
}
