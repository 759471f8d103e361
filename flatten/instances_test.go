package flatten_test

import (
	"testing"

	"orrery/api"
	"orrery/flatten"
)

// Files that have nothing to be made of, and the smallest one that has.
func TestMainClass(t *testing.T) {
	flatTexts(t, map[string]any{
		"":                        api.ErrName,
		"unit m;":                 api.ErrName,
		"connector A var e; end;": api.ErrName,
		"connector A var e; end; connector B end;": api.ErrName,
		"model A end;":                                       "| |",
		"unit m; model A end; unit s;":                       "| |",
		"model A var x; x = 1; end; model B var y; end;":     "y | |",
		"model B var y; end; model A var x; x = 1; end;":     "x | x 1 - ; |",
		"model A var x; x = 1; end; connector B var y; end;": "x | x 1 - ; |",
		"connector P var e; end; model A var x; x = 1; end; connector B var y; flow f; end;":          "x | x 1 - ; |",
		"model A var x; x = 1; end; connector B var y; end; model C part a: A; end; connector D end;": "a.x | a.x 1 - ; |",
		"model C part a: A; end; model A var x; x = 1; end;":                                          "x | x 1 - ; |",
	})
}

// What Check tells comes ahead of all, also of classes that the main one does not need, and of there being no main one.
func TestCheckFirst(t *testing.T) {
	flatTexts(t, map[string]any{
		"model A flow x; end; model B var x; end;":                            api.ErrClass,
		"connector A param k = 1; end;":                                       api.ErrClass,
		"model A end; model A end; model B y = 1; end;":                       api.ErrTwice,
		"model A part b: B; end; model B part a: A; end; model C y = 1; end;": api.ErrCycle,
		"model A param k = j; end; model B param k = 1 / 0; end;":             api.ErrName,
		"model B param k = 1 / 0; end; model A param k = time; end;":          api.ErrClass,
		"model B var x[17]; y = 1; end;":                                      api.ErrLong,
		"unit m = k; model B param k = 1 / 0; end;":                           api.ErrName,
		"unit u; unit u;": api.ErrTwice,
		"unit a; unit b; unit c; unit d; unit e; unit f; unit g; unit h; model A y = 1; end;":                             api.ErrLong,
		"model B y = 1; for i in 1..17 do end; end;":                                                                      api.ErrLong,
		"connector P part q: Q; end; connector Q var e; flow f; end; model A part p: P; part q: Q; connect(p.q, q); end;": api.ErrClass,
		"model B part p: Q; y = 1; end;":                                                                                  api.ErrName,
	})
	for _, f := range []api.Tree{{}, tree(api.DClass), number(1), model("A"), file(number(1)), file(model("A", number(1))), file(model("1")), file(tree(api.DClass)), file(model("A", variable("x", -1, false)))} {
		if _, e := flatTree(t, f); e != api.ErrTree {
			t.Errorf("%v: %d", f, e)
		}
	}
	deep := tree(api.ETime)
	for range 40 {
		deep = tree(api.ENeg, deep)
	}
	if _, e := flatTree(t, file(model("A", equation(ref("y"), deep)))); e != api.ErrDeep {
		t.Error(e)
	}
	within := tree(api.DFile, api.Tree{})
	within.Kids[0] = within
	if _, e := flatten.Flatten(within); e != api.ErrDeep {
		t.Error(e)
	}
}

// Parameters' numbers are seen where they are used.
func TestParameters(t *testing.T) {
	flatTexts(t, map[string]any{
		"model A param k = 2; var x; x = k; end;":                                       "x | x 2 - ; |",
		"model A var x; x = k; param k = 2; end;":                                       "x | x 2 - ; |",
		"model A param k = 2; param j = k * k + k / 4; var x; x = j; end;":              "x | x 9/2 - ; |",
		"model A param k = -2.5; var x; x = k; end;":                                    "x | x -5/2 - ; |",
		"model A param k = -(-3)^3 - (1 - 2); var x; x = k; end;":                       "x | x 28 - ; |",
		"model A param k = 2; param j = k^-3; param i = k^0; var x; x = j; x = i; end;": "x | x 1/8 - ; x 1 - ; |",
		"model A param k = 6 / 4; var x; x = k; end;":                                   "x | x 3/2 - ; |",
		"model A param k = 5 - 7; var x; x = k; end;":                                   "x | x -2 - ; |",
		"model A param k = 0; param j = k^0; var x; x = j; end;":                        "x | x 1 - ; |",
		"model A param k = 1 / 0; var x; end;":                                          api.ErrPivot,
		"model A param k = 0; param j = 1 / k; end;":                                    api.ErrPivot,
		"model A param k = 0^-1; end;":                                                  api.ErrPivot,
		"model A param k = 2^63; end;":                                                  api.ErrOver,
		"model A param k = -(2^62) - 2^62; end;":                                        api.ErrOver,
		"model A param k = -(2^62) - (2^62 - 1); var x; x = k; end;":                    "x | x -9223372036854775807 - ; |",
		"model A param k = 2^62 + (2^62 - 1); var x; x = k; end;":                       "x | x 9223372036854775807 - ; |",
		"model A param k = 3^64; end;":                                                  api.ErrOver,
		"model A param k = 2^-63; end;":                                                 api.ErrOver,
		"model A param k = 2^40 * 2^40; end;":                                           api.ErrOver,
		"model A param k = 2^40 / 2^-40; end;":                                          api.ErrOver,
		"model A param k = 2^62 + 2^62; end;":                                           api.ErrOver,
		"model A param k = 2^62 - -(2^62); end;":                                        api.ErrOver,
		// the left one of two operands first
		"model A param k = 1 / 0 + 2^63; end;":          api.ErrPivot,
		"model A param k = 2^63 + 1 / 0; end;":          api.ErrOver,
		"model A param k = 2^63 / 0; end;":              api.ErrOver,
		"model A param k = 0 * 2^63; end;":              api.ErrOver,
		"model A param k = 1 / 0; param j = 2^63; end;": api.ErrPivot,
		"model A param k = 2^63; param j = 1 / 0; end;": api.ErrOver,
	})
}

// A modifier's number stands for the class's own, which is not worked out then.
func TestModifiers(t *testing.T) {
	b := "model B param k = 1; param j = 10 * k; var x; x = k + j; end;"
	flatTexts(t, map[string]any{
		b + "model A part b: B; end;":                                                                                "b.x | b.x 1 10 + - ; |",
		b + "model A part b: B(k = 2); end;":                                                                         "b.x | b.x 2 20 + - ; |",
		b + "model A part b: B(j = 2); end;":                                                                         "b.x | b.x 1 2 + - ; |",
		b + "model A part b: B(j = 3, k = 2); end;":                                                                  "b.x | b.x 2 3 + - ; |",
		b + "model A param k = 5; part b: B(k = k + 1); end;":                                                        "b.x | b.x 6 60 + - ; |",
		b + "model A part b: B(k = k + 1); param k = 5; end;":                                                        "b.x | b.x 6 60 + - ; |",
		b + "model A param k = 5; part b: B; end;":                                                                   "b.x | b.x 1 10 + - ; |",
		b + "model A part b: B(k = j); param k = 5; param j = -k; end;":                                              "b.x | b.x -5 -50 + - ; |",
		b + "model A param j = 7; part b: B(k = j, j = j^2); end;":                                                   "b.x | b.x 7 49 + - ; |",
		b + "model A part b[2]: B(k = 2); end;":                                                                      "b[1].x b[2].x | b[1].x 2 20 + - ; b[2].x 2 20 + - ; |",
		b + "model C param n = 3; part b: B(j = n); end; model A part c: C; part d: C(n = 4); end;":                  "c.b.x d.b.x | c.b.x 1 3 + - ; d.b.x 1 4 + - ; |",
		b + "model C param k = 3; part b: B(k = k); end; model A param k = 8; part c: C; part d: C(k = k * k); end;": "c.b.x d.b.x | c.b.x 3 30 + - ; d.b.x 64 640 + - ; |",
		b + "model A part b: B(k = 0^0); end;":                                                                       "b.x | b.x 1 10 + - ; |",
		// numbers that rat refuses
		b + "model A part b: B(k = 1 / 0); end;":                                                     api.ErrPivot,
		b + "model A part b: B(k = 2^62); end;":                                                      api.ErrOver,
		b + "model A part b: B(k = 2^62, j = 0); end;":                                               "b.x | b.x 4611686018427387904 0 + - ; |",
		b + "model A part b: B(k = 1 / 0, j = 2^63); end;":                                           api.ErrPivot,
		b + "model A part b: B(j = 2^63, k = 1 / 0); end;":                                           api.ErrOver,
		b + "model A part b: B(k = 2^62); part c: B(k = 1 / 0); end;":                                api.ErrOver,
		b + "model A part b: B(k = 2^63); param z = 1 / 0; end;":                                     api.ErrPivot, // all parameters ahead of all parts
		"model B param k = 1 / 0; var x; x = k; end; model A part b: B(k = 3); end;":                 "b.x | b.x 3 - ; |",
		"model B param k = 1 / 0; var x; x = k; end; model A part b: B(k = 3); part c: B; end;":      api.ErrPivot,
		"model B param k = 0; param j = 1 / k; end; model A part b: B(k = 3); end;":                  "| |",
		"model B param k = 3; param j = 1 / k; end; model A part b: B(k = 0); end;":                  api.ErrPivot,
		"model B param k = 0; param j = 1 / k; end; model A var x; x = 1; end;":                      "x | x 1 - ; |",
		"model B param k = 0; param j = 1 / k; end; model C part b: B; end; model A part c: C; end;": api.ErrPivot,
	})
}

// Variables stand in the order in which their instances' items do, arrays with an index from 1 on.
func TestInstances(t *testing.T) {
	flatTexts(t, map[string]any{
		"model A var x; var y[1]; var z[3]; var a; end;":                                                               "x y[1] z[1] z[2] z[3] a | |",
		"model A var y[16]; end;":                                                                                      "y[1] y[2] y[3] y[4] y[5] y[6] y[7] y[8] y[9] y[10] y[11] y[12] y[13] y[14] y[15] y[16] | |",
		"model A var y[0]; y = 1; end;":                                                                                "y | y 1 - ; |",
		"model B var y; end; model A var x; part b: B; var z; part c: B; var a; end;":                                  "x b.y z c.y a | |",
		"model B var y; end; model A part b[1]: B; part c[2]: B; part d[0]: B; end;":                                   "b[1].y c[1].y c[2].y d.y | |",
		"model C var z; end; model B part c: C; var y[2]; part d[2]: C; end; model A var x; part b[2]: B; var z; end;": "x b[1].c.z b[1].y[1] b[1].y[2] b[1].d[1].z b[1].d[2].z b[2].c.z b[2].y[1] b[2].y[2] b[2].d[1].z b[2].d[2].z z | |",
		"connector P var e; flow f; end; model B part p[2]: P; var y; end; model A part q: P; part b: B; end;":         "q.e q.f b.p[1].e b.p[1].f b.p[2].e b.p[2].f b.y | b.p[1].f ; b.p[2].f ; |",
		"model B var y; end; model A part b[16]: B; end;":                                                              "b[1].y b[2].y b[3].y b[4].y b[5].y b[6].y b[7].y b[8].y b[9].y b[10].y b[11].y b[12].y b[13].y b[14].y b[15].y b[16].y | |",
	})
}

// Instances' rules are gone through in the order in which the instances were made: the main one's first, then, of each part, its own ahead of its parts'.
func TestOrderOfRules(t *testing.T) {
	c := "model C var z; z = 3; z = 4; end;"
	b := "model B part c: C; var y; y = 2; part d: C; c.z = 5; end;"
	flatTexts(t, map[string]any{
		c + b + "model A part b: B; var x; x = 1; part c: C; x = 0; end;": "b.c.z b.y b.d.z x c.z | x 1 - ; x 0 - ; b.y 2 - ; b.c.z 5 - ; b.c.z 3 - ; b.c.z 4 - ; b.d.z 3 - ; b.d.z 4 - ; c.z 3 - ; c.z 4 - ; |",
		c + b + "model A part c[2]: C; part b: B; end;":                   "c[1].z c[2].z b.c.z b.y b.d.z | c[1].z 3 - ; c[1].z 4 - ; c[2].z 3 - ; c[2].z 4 - ; b.y 2 - ; b.c.z 5 - ; b.c.z 3 - ; b.c.z 4 - ; b.d.z 3 - ; b.d.z 4 - ; |",
		// all instances ahead of all rules
		"model B param k = 1 / 0; end; model A y = 1; part b: B; end;":                         api.ErrPivot,
		"model B y = 1; param k = 2^63; end; model A part b: B; end;":                          api.ErrOver,
		"model B y = 1; end; model A part b: B; b = 2; end;":                                   api.ErrClass,
		"model B y = 1; end; model A part b: B; var x; x[1] = 2; end;":                         api.ErrIndex,
		"model B y = 1; end; model C var z; z[1] = 1; end; model A part b: B; part c: C; end;": api.ErrName,
		"model B y = 1; end; model C var z; z[1] = 1; end; model A part c: C; part b: B; end;": api.ErrIndex,
	})
}
