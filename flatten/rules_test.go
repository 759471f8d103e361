package flatten_test

import (
	"testing"

	"orrery/api"
)

// Each kind of expression, with its nodes behind its Kids'.
func TestNodes(t *testing.T) {
	rows := map[string]any{}
	for expression, nodes := range map[string]string{
		"1.5":                             "3/2",
		"0":                               "0",
		"x":                               "x",
		"k":                               "-7/3",
		"der(x)":                          "x'",
		"der(y[2])":                       "y[2]'",
		"time":                            "time",
		"sqrt(x)":                         "x sqrt",
		"exp(x)":                          "x exp",
		"log(x)":                          "x log",
		"sin(x)":                          "x sin",
		"cos(x)":                          "x cos",
		"atan(x)":                         "x atan",
		"-x":                              "x neg",
		"-1":                              "1 neg",
		"--x":                             "x neg neg",
		"x + y[1]":                        "x y[1] +",
		"x - y[1]":                        "x y[1] -",
		"x * y[1]":                        "x y[1] *",
		"x / y[1]":                        "x y[1] /",
		"x^2":                             "x ^2",
		"x^0":                             "x ^0",
		"x^-64":                           "x ^-64",
		"x^64":                            "x ^64",
		"(2^3)^-1":                        "2 ^3 ^-1",
		"1 + 2":                           "1 2 +",
		"1 / 0":                           "1 0 /",
		"0^-1":                            "0 ^-1",
		"2^64":                            "2 ^64",
		"x - x":                           "x x -",
		"x - (y[1] - x)":                  "x y[1] x - -",
		"x - y[1] - x":                    "x y[1] - x -",
		"x * x + x * x":                   "x x * x x * +",
		"k * k^2":                         "-7/3 -7/3 ^2 *",
		"sin(cos(time)) / exp(-der(x)^3)": "time cos sin x' ^3 neg exp /",
		"1 - (2 - (3 - (4 - x)))":         "1 2 3 4 x - - - -",
	} {
		rows["model A param k = -7 / 3; var x; var y[2]; "+expression+" = 1; end;"] = "x y[1] y[2] | " + nodes + " 1 - ; |"
		rows["model A param k = -7 / 3; var x; var y[2]; 1 = "+expression+"; end;"] = "x y[1] y[2] | 1 " + nodes + " - ; |"
	}
	flatTexts(t, rows)
}

// Derivatives are of variables alone.
func TestDerivatives(t *testing.T) {
	inModel(t, map[string]any{
		"0 = der(x);":                           "0 x' - ; ",
		"0 = der(x3[2]);":                       "0 x3[2]' - ; ",
		"0 = der(b.c.p.e);":                     "0 b.c.p.e' - ; ",
		"0 = der(k);":                           api.ErrClass,
		"0 = der(b.m);":                         api.ErrClass,
		"0 = der(b);":                           api.ErrClass,
		"0 = der(c[2]);":                        api.ErrClass,
		"0 = der(p);":                           api.ErrClass,
		"0 = der(y);":                           api.ErrName,
		"0 = der(x3);":                          api.ErrIndex,
		"0 = der(x3[4]);":                       api.ErrIndex,
		"0 = der(x3[i]);":                       api.ErrName,
		"0 = der(x.y);":                         api.ErrClass,
		"for i in 2..3 do 0 = der(x3[i]); end;": "0 x3[2]' - ; 0 x3[3]' - ; ",
	})
}

// Of several errors that of the first node tells, from the left, each ahead of what it is an operand of.
func TestFirstError(t *testing.T) {
	inModel(t, map[string]any{
		"y = b;":                                  api.ErrName,
		"b = y;":                                  api.ErrClass,
		"x3[4] = b;":                              api.ErrIndex,
		"x + y = b;":                              api.ErrName,
		"(x + b) * y = x3;":                       api.ErrClass,
		"sin(x3) - der(b) = y;":                   api.ErrIndex,
		"der(b) - sin(x3) = y;":                   api.ErrClass,
		"x = 1; x = y; x = b;":                    api.ErrName,
		"x = b; x = y;":                           api.ErrClass,
		"start y = 1; x = b;":                     api.ErrName,
		"x = b; start y = 1;":                     api.ErrClass,
		"connect(b, p); x = y;":                   api.ErrClass,
		"for i in 3..4 do x3[i] = y; end;":        api.ErrName,
		"for i in 3..4 do y = x3[i]; end;":        api.ErrName,
		"for i in 3..4 do x3[i] = 0; end; x = y;": api.ErrIndex,
		"for i in 3..4 do x3[i] = 0; x3[i - 2] = b; end;": api.ErrClass,
		"for i in 1..0 do y = b; end;":                    "",
	})
}

// Starts have the number of a variable, and of constant expressions.
func TestStarts(t *testing.T) {
	flatTexts(t, map[string]any{
		"model A var x; start x = 1; end;":                                                                                "x | | x 1 1",
		"model A var x; start der(x) = -1.5; end;":                                                                        "x | | x' -3/2 -3/2",
		"model A var x; start x in [1, 2]; end;":                                                                          "x | | x 1 2",
		"model A var x; start x in [2, -1]; end;":                                                                         "x | | x 2 -1",
		"model A param k = 2; param j = 3; var x; start der(x) in [k / j, k^3 - 1]; end;":                                 "x | | x' 2/3 7",
		"model A var x; start x = k; param k = 2; end;":                                                                   "x | | x 2 2",
		"model A var x; start x = 1; start x = 2; start der(x) = 3; start x = 1; end;":                                    "x | | x 1 1 x 2 2 x' 3 3 x 1 1",
		"model A var y; var x[3]; start x[2] = 1; x[1] = y; start y = 4; end;":                                            "y x[1] x[2] x[3] | x[1] y - ; | x[2] 1 1 y 4 4",
		"model B param k = 1; var y[2]; start y[2] = k; end; model A part b[2]: B(k = 3); start der(b[1].y[1]) = 2; end;": "b[1].y[1] b[1].y[2] b[2].y[1] b[2].y[2] | | b[1].y[1]' 2 2 b[1].y[2] 3 3 b[2].y[2] 3 3",
		"connector P var e; flow f; end; model A part p: P; start p.f = 1; end;":                                          "p.e p.f | | p.f 1 1",
	})
	inModel(t, map[string]any{
		"start k = 1;":              api.ErrClass,
		"start b.m = 1;":            api.ErrClass,
		"start b = 1;":              api.ErrClass,
		"start p = 1;":              api.ErrClass,
		"start c[1] = 1;":           api.ErrClass,
		"start der(k) = 1;":         api.ErrClass,
		"start der(b) = 1;":         api.ErrClass,
		"start y = 1;":              api.ErrName,
		"start der(y) = 1;":         api.ErrName,
		"start b.x = 1;":            api.ErrName,
		"start x3 = 1;":             api.ErrIndex,
		"start x3[0] = 1;":          api.ErrIndex,
		"start x3[i] = 1;":          api.ErrName,
		"start der(x3[4]) = 1;":     api.ErrIndex,
		"start x.y = 1;":            api.ErrClass,
		"start x = 1 / 0;":          api.ErrPivot,
		"start x = 2^63;":           api.ErrOver,
		"start x in [1, 1 / 0];":    api.ErrPivot,
		"start x in [1, 2^63];":     api.ErrOver,
		"start x in [1 / 0, 2^63];": api.ErrPivot,
		"start x in [2^63, 1 / 0];": api.ErrOver,
		"start b in [2^63, 1 / 0];": api.ErrClass,
		"start y = 1 / 0;":          api.ErrName,
		"start x3[4] = 1 / 0;":      api.ErrIndex,
		"start x = 1 / (k - 5);":    api.ErrPivot,
		"start x = 1 / 0; x = y;":   api.ErrPivot,
		"x = y; start x = 1 / 0;":   api.ErrName,
	})
}

// Loops go from their first number up to their last one.
func TestLoops(t *testing.T) {
	inModel(t, map[string]any{
		"for i in 2..1 do y = 0; end;":                                    "",
		"for i in 1000000..0 do y = 0; end;":                              "",
		"for i in 1..1 do end;":                                           "",
		"for i in 2..2 do x3[i] = 0; end;":                                "x3[2] 0 - ; ",
		"for i in 0..0 do x = 0; end;":                                    "x 0 - ; ",
		"for i in 0..15 do x = 0; end;":                                   "x 0 - ; x 0 - ; x 0 - ; x 0 - ; x 0 - ; x 0 - ; x 0 - ; x 0 - ; x 0 - ; x 0 - ; x 0 - ; x 0 - ; x 0 - ; x 0 - ; x 0 - ; x 0 - ; ",
		"for i in 1..2 do x3[i] = 0; x3[i + 1] = 1; end;":                 "x3[1] 0 - ; x3[2] 1 - ; x3[2] 0 - ; x3[3] 1 - ; ",
		"for i in 1..2 do for j in 1..0 do y = 0; end; x3[i] = 0; end;":   "x3[1] 0 - ; x3[2] 0 - ; ",
		"for i in 1..2 do for j in 1..3 do c[i].w[j] = i.j; end; end;":    api.ErrName,
		"for i in 1..2 do for j in 1..3 do c[i].w[j] = c[i].n; end; end;": "c[1].w[1] 7 - ; c[1].w[2] 7 - ; c[1].w[3] 7 - ; c[2].w[1] 7 - ; c[2].w[2] 7 - ; c[2].w[3] 7 - ; ",
		"for i in 1..2 do end; for i in 1..2 do x3[i] = 0; end; x = 0;":   "x3[1] 0 - ; x3[2] 0 - ; x 0 - ; ",
	})
}
