package flatten_test

import (
	"testing"

	"orrery/api"
)

// beside has classes for references: parts within parts, with arrays.
const beside = "connector P var e; flow f; end; model C param n = 7; var z; var w[3]; part p: P; end; model B param m = 6; var y; part c: C; part d[2]: C; end;"

// inModel asks of items in a main class, which has a parameter k, a variable x, x3 of three, a part b, two parts c, and a connector p.
func inModel(t *testing.T, rows map[string]any) {
	t.Helper()
	for items, want := range rows {
		text := beside + "model A param k = 5; var x; var x3[3]; part b: B; part c[2]: C; part p: P; " + items + " end;"
		if s, ok := want.(string); ok {
			b := "b.y b.c.z b.c.w[1] b.c.w[2] b.c.w[3] b.c.p.e b.c.p.f b.d[1].z b.d[1].w[1] b.d[1].w[2] b.d[1].w[3] b.d[1].p.e b.d[1].p.f b.d[2].z b.d[2].w[1] b.d[2].w[2] b.d[2].w[3] b.d[2].p.e b.d[2].p.f"
			c := "c[1].z c[1].w[1] c[1].w[2] c[1].w[3] c[1].p.e c[1].p.f c[2].z c[2].w[1] c[2].w[2] c[2].w[3] c[2].p.e c[2].p.f"
			loose := "b.c.p.f ; b.d[1].p.f ; b.d[2].p.f ; c[1].p.f ; c[2].p.f ;"
			want = "x x3[1] x3[2] x3[3] " + b + " " + c + " p.e p.f | " + s + loose + " |"
		}
		flatText(t, text, want)
	}
}

func TestReferences(t *testing.T) {
	inModel(t, map[string]any{
		"0 = x;":                "0 x - ; ",
		"0 = k;":                "0 5 - ; ",
		"0 = x3[1];":            "0 x3[1] - ; ",
		"0 = x3[3];":            "0 x3[3] - ; ",
		"0 = b.y;":              "0 b.y - ; ",
		"0 = b.m;":              "0 6 - ; ",
		"0 = b.c.z;":            "0 b.c.z - ; ",
		"0 = b.c.n;":            "0 7 - ; ",
		"0 = b.c.w[2];":         "0 b.c.w[2] - ; ",
		"0 = b.d[2].z;":         "0 b.d[2].z - ; ",
		"0 = b.d[1].w[3];":      "0 b.d[1].w[3] - ; ",
		"0 = b.d[1].n;":         "0 7 - ; ",
		"0 = c[1].z;":           "0 c[1].z - ; ",
		"0 = c[2].w[1];":        "0 c[2].w[1] - ; ",
		"0 = p.e;":              "0 p.e - ; ",
		"0 = p.f;":              "0 p.f - ; ",
		"0 = b.c.p.f;":          "0 b.c.p.f - ; ",
		"0 = b.d[2].p.e;":       "0 b.d[2].p.e - ; ",
		"b.c.z = c[2].p.e;":     "b.c.z c[2].p.e - ; ",
		"0 = der(b.d[2].w[3]);": "0 b.d[2].w[3]' - ; ",
		"0 = y;":                api.ErrName,
		"0 = b.x;":              api.ErrName,
		"0 = b.k;":              api.ErrName,
		"0 = b.c.y;":            api.ErrName,
		"0 = c[1].y;":           api.ErrName,
		"0 = z.b;":              api.ErrName,
		"0 = p.k;":              api.ErrName,
		"0 = A;":                api.ErrName,
		"0 = B.y;":              api.ErrName,
		"0 = i;":                api.ErrName,
		"0 = b.b.y;":            api.ErrName,
		// instances are no numbers
		"0 = b;":     api.ErrClass,
		"0 = b.c;":   api.ErrClass,
		"0 = c[1];":  api.ErrClass,
		"0 = p;":     api.ErrClass,
		"0 = b.c.p;": api.ErrClass,
		// behind what is no part
		"0 = x.y;":      api.ErrClass,
		"0 = x.x;":      api.ErrClass,
		"0 = k.x;":      api.ErrClass,
		"0 = x3[1].x;":  api.ErrClass,
		"0 = b.y.y;":    api.ErrClass,
		"0 = b.m.m;":    api.ErrClass,
		"0 = p.e.e;":    api.ErrClass,
		"0 = p.f.z[9];": api.ErrClass,
		// what comes first, along the parts
		"0 = z[1].y;":      api.ErrName,
		"0 = x[1].y;":      api.ErrIndex,
		"0 = x3.y;":        api.ErrIndex,
		"0 = x3[4].y;":     api.ErrIndex,
		"0 = k[1].y;":      api.ErrIndex,
		"0 = x[i].y;":      api.ErrName,
		"0 = k[i];":        api.ErrName,
		"0 = c[3].y;":      api.ErrIndex,
		"0 = c.y;":         api.ErrIndex,
		"0 = b.d.y;":       api.ErrIndex,
		"0 = b.d[2].y[1];": api.ErrName,
		"0 = b.y[1];":      api.ErrIndex,
		"0 = b.y[1].z;":    api.ErrIndex,
		"0 = b[1].z;":      api.ErrIndex,
	})
}

func TestIndices(t *testing.T) {
	inModel(t, map[string]any{
		"0 = x3[0];":                           api.ErrIndex,
		"0 = x3[4];":                           api.ErrIndex,
		"0 = x3[1000000];":                     api.ErrIndex,
		"0 = x3;":                              api.ErrIndex,
		"0 = x[1];":                            api.ErrIndex,
		"0 = x[0];":                            api.ErrIndex,
		"0 = k[1];":                            api.ErrIndex,
		"0 = b[1];":                            api.ErrIndex,
		"0 = b[1].y;":                          api.ErrIndex,
		"0 = p[1].e;":                          api.ErrIndex,
		"0 = c;":                               api.ErrIndex,
		"0 = c.z;":                             api.ErrIndex,
		"0 = c[0].z;":                          api.ErrIndex,
		"0 = c[3].z;":                          api.ErrIndex,
		"0 = c[2].w;":                          api.ErrIndex,
		"0 = c[2].w[4];":                       api.ErrIndex,
		"0 = c[2].z[1];":                       api.ErrIndex,
		"0 = b.d.z;":                           api.ErrIndex,
		"0 = b.d[3];":                          api.ErrIndex,
		"0 = x3[i];":                           api.ErrName,
		"0 = x3[k];":                           api.ErrName, // a parameter is no loop variable
		"0 = x3[x];":                           api.ErrName,
		"0 = x3[i + 1];":                       api.ErrName,
		"for i in 1..3 do 0 = x3[i]; end;":     "0 x3[1] - ; 0 x3[2] - ; 0 x3[3] - ; ",
		"for i in 2..3 do 0 = x3[i - 1]; end;": "0 x3[1] - ; 0 x3[2] - ; ",
		"for i in 0..1 do 0 = x3[i + 2]; end;": "0 x3[2] - ; 0 x3[3] - ; ",
		"for i in 0..2 do 0 = x3[i + 1]; end;": "0 x3[1] - ; 0 x3[2] - ; 0 x3[3] - ; ",
		"for i in 999999..1000000 do 0 = x3[i - 999997]; end;":   "0 x3[2] - ; 0 x3[3] - ; ",
		"for i in 1000000..1000000 do 0 = x3[i + 1000000]; end;": api.ErrIndex,
		"for i in 1..1 do 0 = x3[i - 1000000]; end;":             api.ErrIndex,
		"for i in 1..4 do 0 = x3[i]; end;":                       api.ErrIndex,
		"for i in 0..3 do 0 = x3[i]; end;":                       api.ErrIndex,
		"for i in 1..3 do 0 = x3[i - 1]; end;":                   api.ErrIndex,
		"for i in 1..3 do 0 = x3[i + 1]; end;":                   api.ErrIndex,
		"for i in 1..3 do 0 = x3[j]; end;":                       api.ErrName,
		"for i in 1..3 do 0 = x3; end;":                          api.ErrIndex,
		"for i in 1..3 do 0 = x[i]; end;":                        api.ErrIndex,
		"for i in 1..3 do 0 = i; end;":                           api.ErrName,
		"for i in 1..3 do i = 0; end;":                           api.ErrName,
		"for i in 1..3 do 0 = x + i; end;":                       api.ErrName,
		"for i in 1..2 do 0 = c[i].w[i + 1]; end;":               "0 c[1].w[2] - ; 0 c[2].w[3] - ; ",
		"for i in 1..2 do 0 = b.d[i].w[3]; end;":                 "0 b.d[1].w[3] - ; 0 b.d[2].w[3] - ; ",
		"for i in 1..2 do 0 = c[i].n * c[i].z; end;":             "0 7 c[1].z * - ; 0 7 c[2].z * - ; ",
	})
}

// Loop variables: the innermost one of a name counts, and those outside again behind it. They may have names of items, which are not hidden by them, nor hide them.
func TestLoopVariables(t *testing.T) {
	inModel(t, map[string]any{
		"for i in 1..2 do for j in 2..3 do x3[i] = x3[j]; end; end;":                                         "x3[1] x3[2] - ; x3[1] x3[3] - ; x3[2] x3[2] - ; x3[2] x3[3] - ; ",
		"for i in 1..2 do for i in 2..3 do x3[i] = 0; end; x3[i] = 1; end;":                                  "x3[2] 0 - ; x3[3] 0 - ; x3[1] 1 - ; x3[2] 0 - ; x3[3] 0 - ; x3[2] 1 - ; ",
		"for i in 1..1 do for i in 2..2 do for i in 3..3 do x3[i] = 0; end; x3[i] = 0; end; x3[i] = 0; end;": "x3[3] 0 - ; x3[2] 0 - ; x3[1] 0 - ; ",
		"for i in 1..1 do for j in 2..2 do for i in 3..3 do x3[i] = x3[j]; end; x3[i] = x3[j]; end; end;":    "x3[3] x3[2] - ; x3[1] x3[2] - ; ",
		"for i in 3..3 do for i in 1..0 do x3[i] = 0; end; x3[i] = 1; end;":                                  "x3[3] 1 - ; ",
		"for x in 1..2 do x3[x] = x; end;":                                                                   "x3[1] x - ; x3[2] x - ; ",
		"for k in 1..2 do x3[k] = k; end;":                                                                   "x3[1] 5 - ; x3[2] 5 - ; ",
		"for x3 in 1..2 do x3[x3] = 0; end;":                                                                 "x3[1] 0 - ; x3[2] 0 - ; ",
		"for c in 1..2 do c[c].z = 0; end;":                                                                  "c[1].z 0 - ; c[2].z 0 - ; ",
		"for b in 1..2 do b.d[b].z = 0; end;":                                                                "b.d[1].z 0 - ; b.d[2].z 0 - ; ",
		"for z in 1..2 do c[z].z = 0; end;":                                                                  "c[1].z 0 - ; c[2].z 0 - ; ",
		"for i in 1..2 do x3[i] = 0; end; x3[i] = 1;":                                                        api.ErrName,
		"for i in 1..2 do for j in 1..2 do x3[i] = 0; end; x3[j] = 1; end;":                                  api.ErrName,
		"for i in 1..1 do end; for j in 1..1 do x3[i] = 0; end;":                                             api.ErrName,
		"for i in 1..4 do for i in 1..3 do x3[i] = 0; end; end;":                                             "x3[1] 0 - ; x3[2] 0 - ; x3[3] 0 - ; x3[1] 0 - ; x3[2] 0 - ; x3[3] 0 - ; x3[1] 0 - ; x3[2] 0 - ; x3[3] 0 - ; x3[1] 0 - ; x3[2] 0 - ; x3[3] 0 - ; ",
		"for i in 1..3 do for i in 1..4 do x3[i] = 0; end; end;":                                             api.ErrIndex,
		"start x3[1] = 0; for i in 1..1 do x3[i] = 0; end; x = x3[i];":                                       api.ErrName,
	})
	// a loop variable of one instance is none in its parts
	flatTexts(t, map[string]any{
		"model B var y[2]; y[i] = 0; end; model A part b: B; for i in 1..2 do b.y[i] = 1; end; end;":                       api.ErrName,
		"model B var y[2]; for j in 1..2 do y[j] = 0; end; end; model A part b: B; for i in 1..2 do b.y[i] = 1; end; end;": "b.y[1] b.y[2] | b.y[1] 1 - ; b.y[2] 1 - ; b.y[1] 0 - ; b.y[2] 0 - ; |",
	})
}
