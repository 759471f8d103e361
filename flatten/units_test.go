package flatten_test

import (
	"testing"

	"orrery/api"
)

// Dimensions that are given stay, and others are told; base units are numbered in their order.
func TestDimensions(t *testing.T) {
	ms := "unit m; unit s; unit v = m / s; "
	sm := "unit s; unit m; unit v = m / s; "
	flatTexts(t, map[string]any{
		ms + "model A var x: m; var y; x = y; end;":                                                   "x@1 y@1 | x y - ; |",
		ms + "model A var y; var x: m; x = y; end;":                                                   "y@1 x@1 | x y - ; |",
		ms + "model A var x: m; var y; end;":                                                          "x@1 y | |",
		ms + "model A var x: v; var y: 1; var z: m^(1/2); end;":                                       "x@1,-1 y z@1/2 | |",
		ms + "model A var x[2]: m; var y[2]; x[1] = y[2]; end;":                                       "x[1]@1 x[2]@1 y[1] y[2]@1 | x[1] y[2] - ; |",
		ms + "model B var x: m; var y; y = x * x; end; model A part b[2]: B; var z; z = b[1].y; end;": "b[1].x@1 b[1].y@2 b[2].x@1 b[2].y@2 z@2 | z b[1].y - ; b[1].y b[1].x b[1].x * - ; b[2].y b[2].x b[2].x * - ; |",
		// what connections say tells dimensions, too
		ms + "connector P var e; flow f; end; model B part p: P; end; model A part a: B; part b: B; var x: m; connect(a.p, b.p); a.p.e = x; b.p.f = x * x; end;": "a.p.e@1 a.p.f@2 b.p.e@1 b.p.f@2 x@1 | a.p.e x - ; b.p.f x x * - ; a.p.e b.p.e - ; a.p.f b.p.f + ; |",
		ms + "connector P var e: m; flow f: v; end; model A part p: P; part q: P; connect(p, q); end;":                                                           "p.e@1 p.f@1,-1 q.e@1 q.f@1,-1 | p.e q.e - ; p.f neg q.f neg + ; |",
		// seconds are those of the unit s
		ms + "model A var x: m; var y; y = der(x); end;":                          "x@1 y@1,-1 | y x' - ; |",
		sm + "model A var x: m; var y; y = der(x); end;":                          "x@0,1 y@-1,1 | y x' - ; |",
		ms + "model A var x; x = time; end;":                                      "x@0,1 | x time - ; |",
		"unit m; unit v = m^2; unit s = v^(1/2); model A var x; x = time^2; end;": "x@2 | x time ^2 - ; |",
		"unit m; unit t; model A var x: m; var y; y = der(x); end;":               "x@1 y@1 | y x' - ; |",
		"unit m; model A var x: m; var y; y = der(x) * time; end;":                "x@1 y@1 | y x' time * - ; |",
		"model A var x; x = time; end; unit s;":                                   "x@1 | x time - ; |",
		"model A var x; x = time; end; unit S;":                                   "x | x time - ; |",
		// parameters have the dimension that they give, and none is told of them
		ms + "model A param k: m = 2; var x; x = k; end;":                                             "x@1 | x 2@1 - ; |",
		ms + "model A param k: v = -2; param j: s = 3; var x; x = k * j; end;":                        "x@1 | x -2@1,-1 3@0,1 * - ; |",
		ms + "model A param k: 1 = 2; param j = 2; var x; x = k * j; end;":                            "x | x 2 2 * - ; |",
		ms + "model B param k: m = 2; var x; x = k; end; model A param k = 7; part b: B(k = k); end;": "b.x@1 | b.x 7@1 - ; |",
		ms + "model A param k: m = 2; param j = k; var x; x = j; end;":                                "x | x 2 - ; |",
		ms + "model A param k: m = 0; var x: s; x = k; end;":                                          "x@0,1 | x 0@1 - ; |",
		ms + "model A param k: m = 2; var x; start x = k; end;":                                       "x | | x 2 2",
		ms + "model A param k: m = 2; var x; x * k = 3; end;":                                         "x@-1 | x 2@1 * 3 - ; |",
	})
}

func TestDimensionsRefused(t *testing.T) {
	ms := "unit m; unit s; "
	power := "x"
	for range 11 {
		power = "(" + power + ")^64"
	}
	flatTexts(t, map[string]any{
		ms + "model A var x: m; x = 1; end;":                                           api.ErrUnit,
		ms + "model A var x: m; x = 0; end;":                                           "x@1 | x 0 - ; |",
		ms + "model A var x: m; var y: s; x = y; end;":                                 api.ErrUnit,
		ms + "model A var x: m; var y: m; x = der(y); end;":                            api.ErrUnit,
		"unit m; model A var x: m; var y: m; x = der(y); end;":                         "x@1 y@1 | x y' - ; |",
		"model A var x: m; var y: m; x = der(y); end; unit m; unit s;":                 api.ErrUnit,
		ms + "model A var x: m; x = time; end;":                                        api.ErrUnit,
		ms + "model A var x: s; x = time; end;":                                        "x@0,1 | x time - ; |",
		ms + "model A param k: m = 2; var x: s; x = k; end;":                           api.ErrUnit,
		ms + "model A var x[2]: m; x[2] = 1; end;":                                     api.ErrUnit,
		ms + "model A var x: m; var y; y = sin(x); end;":                               api.ErrUnit,
		ms + "model A var x; x = 1; x = time; end;":                                    api.ErrUnit,
		ms + "model B var x; end; model A part b: B; var y: m; b.x = y; b.x = 1; end;": api.ErrUnit,
		ms + "connector P var e: m; end; connector Q var e: s; end; model A part p: P; part q: Q; connect(p, p); p.e = q.e; end;":                                                  api.ErrUnit,
		ms + "connector P var e; end; model B part p: P; var x: m; p.e = x; end; model C part p: P; var x: s; p.e = x; end; model A part b: B; part c: C; connect(b.p, c.p); end;": api.ErrUnit,
		// starts are not asked
		ms + "model A param k: m = 2; var x: s; start x = k; start der(x) = k; end;": "x@0,1 | | x 2 2 x' 2 2",
		// exponents that have no room
		ms + "model A var x: m; " + power + " = 0; end;":     api.ErrOver,
		ms + "model A var x; " + power + " = 0; x = 1; end;": api.ErrOver,
		"model A var x: 1; " + power + " = 0; end;":          "x | x ^64 ^64 ^64 ^64 ^64 ^64 ^64 ^64 ^64 ^64 ^64 0 - ; |",
		// all else comes ahead
		ms + "model A var x: m; x = 1; x = y; end;":                                            api.ErrName,
		ms + "model A var x: m; x = 1; start x = 1 / 0; end;":                                  api.ErrPivot,
		ms + "connector P var e; end; model A var x: m; x = 1; part p: P; connect(p, x); end;": api.ErrClass,
		ms + "model A var x: m; for i in 1..5 do for j in 1..13 do x = 1; end; end; end;":      api.ErrLong,
	})
}

// A parameter's dimension is that of its class, however often there are instances of it.
func TestDimensionsOfInstances(t *testing.T) {
	flatTexts(t, map[string]any{
		"unit m; unit s; model B param k: m = 1; param j: s = 2; var x; x = k; var y; y = j; end; model A part b[2]: B; part c: B(k = 3, j = 4); end;": "b[1].x@1 b[1].y@0,1 b[2].x@1 b[2].y@0,1 c.x@1 c.y@0,1 | b[1].x 1@1 - ; b[1].y 2@0,1 - ; b[2].x 1@1 - ; b[2].y 2@0,1 - ; c.x 3@1 - ; c.y 4@0,1 - ; |",
		"unit m; model B param k: m = 1; var x: m; x = k; end; model A param k = 5; var x; x = k; part b: B; end;":                                     "x b.x@1 | x 5 - ; b.x 1@1 - ; |",
	})
}
