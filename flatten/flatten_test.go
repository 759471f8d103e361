package flatten_test

import (
	"testing"

	"orrery/api"
)

// The rows of the chapter's examples.
func TestExamples(t *testing.T) {
	flatTexts(t, map[string]any{
		"model A param k = 2; var x[2]; for i in 1..2 do x[i] = k * i; end; end;":                                                      api.ErrName,
		"model A param k = 2; var x[2]; for i in 1..2 do der(x[i]) = k; end; end;":                                                     "x[1] x[2] | x[1]' 2 - ; x[2]' 2 - ; |",
		"connector P var e; flow f; end; model R part p: P; p.e = 2 * p.f; end; model M part a: R; part b: R; connect(a.p, b.p); end;": "a.p.e a.p.f b.p.e b.p.f | a.p.e 2 a.p.f * - ; b.p.e 2 b.p.f * - ; a.p.e b.p.e - ; a.p.f b.p.f + ; |",
		"model A x = 1; end;":              api.ErrName,
		"model A var x[2]; x = 1; end;":    api.ErrIndex,
		"model A var x[2]; x[3] = 1; end;": api.ErrIndex,
	})
}
