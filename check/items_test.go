package check_test

import (
	"fmt"
	"testing"

	"orrery/api"
)

// Each kind of item in a connector, and in a model.
func TestWhatMayStandWhere(t *testing.T) {
	for item, want := range map[string]struct{ inConnector, inModel api.Errno }{
		"var x;":                          {api.OK, api.OK},
		"var x: m;":                       {api.OK, api.OK},
		"flow x;":                         {api.OK, api.ErrClass},
		"flow x: m;":                      {api.OK, api.ErrClass},
		"var x[0];":                       {api.OK, api.OK},
		"flow x[0];":                      {api.OK, api.ErrClass},
		"var x[1];":                       {api.ErrClass, api.OK},
		"flow x[1];":                      {api.ErrClass, api.ErrClass},
		"var x[16];":                      {api.ErrClass, api.OK},
		"var x[17];":                      {api.ErrClass, api.ErrLong},
		"flow x[17];":                     {api.ErrClass, api.ErrClass},
		"flow x: kg;":                     {api.ErrName, api.ErrClass},
		"var x[1]: kg;":                   {api.ErrClass, api.ErrName},
		"param k = 1;":                    {api.ErrClass, api.OK},
		"param k = time;":                 {api.ErrClass, api.ErrClass},
		"param k = j;":                    {api.ErrClass, api.ErrName},
		"part p: B;":                      {api.ErrClass, api.OK},
		"part p: P;":                      {api.ErrClass, api.OK},
		"part p[2]: B(k = 3);":            {api.ErrClass, api.OK},
		"part p: Z;":                      {api.ErrClass, api.ErrName},
		"part p: X;":                      {api.ErrClass, api.ErrCycle},
		"start x = 1;":                    {api.ErrClass, api.OK},
		"start x = y;":                    {api.ErrClass, api.ErrName},
		"connect(x, y);":                  {api.ErrClass, api.OK},
		"x = 1;":                          {api.ErrClass, api.OK},
		"for i in 1..2 do end;":           {api.ErrClass, api.OK},
		"for i in 1..17 do end;":          {api.ErrClass, api.ErrLong},
		"for i in 1..2 do x[i] = 1; end;": {api.ErrClass, api.OK},
	} {
		others := "unit m; model B param k = 1; end; connector P flow f; end;"
		for kind, e := range map[string]api.Errno{"connector": want.inConnector, "model": want.inModel} {
			name := ""
			if e != api.OK {
				name = "X"
			}
			checkText(t, others+kind+" X "+item+" end;", e, name)
			checkText(t, kind+" X var y; "+item+" end;"+others, e, name)
		}
	}
}

// Of a connector's variables, too, all else is asked.
func TestConnectors(t *testing.T) {
	checkTexts(t, map[string]said{
		"connector P end;": {api.OK, ""},
		"connector P var a; flow b; var c; flow d; end;":               {api.OK, ""},
		"connector P var a; var a; end;":                               {api.ErrTwice, "P"},
		"connector P var a; flow a; end;":                              {api.ErrTwice, "P"},
		"connector P flow a; var b; flow a; end;":                      {api.ErrTwice, "P"},
		"connector P flow a; flow a[2]; end;":                          {api.ErrClass, "P"},
		"connector P flow a; flow a: kg; end;":                         {api.ErrTwice, "P"},
		"connector P flow a: m^(1/2); end; unit m;":                    {api.OK, ""},
		"connector P flow a: m^(1/2) / s; end; unit m;":                {api.ErrName, "P"},
		"model A part p: P(k = 1); end; connector P param k = 1; end;": {api.ErrClass, "P"}, // P's IParam is there, but can't stand
		"connector P param k = 1; end; model A part p: P(k = 1); end;": {api.ErrClass, "P"},
		"model A part p: P(k = 1); end; connector P var k; end;":       {api.ErrName, "A"},
		"connector P var a; param a = 1; end;":                         {api.ErrClass, "P"}, // ahead of ErrTwice
		"connector P var a; part a: Z; end;":                           {api.ErrClass, "P"},
		"connector P var a; var a[2]; end;":                            {api.ErrClass, "P"},
		"connector P param a = 1; param a = 1; end;":                   {api.ErrClass, "P"},
	})
}

// Each pair of what has a name; what stands between them, loops too, changes nothing.
func TestNamesTwice(t *testing.T) {
	items := func(name string) []string {
		return []string{"param " + name + " = 1;", "var " + name + ";", "var " + name + "[2]: m;", "part " + name + ": B;", "part " + name + "[3]: P;"}
	}
	rows := map[string]api.Errno{}
	for _, first := range items("x") {
		for _, between := range []string{"", "var y;", "for x in 1..2 do x[x] = 1; end;", "start x = 1;", "connect(x, x);", "x = x;"} {
			for _, second := range items("x") {
				rows[first+between+second] = api.ErrTwice
				rows[between+first+second] = api.ErrTwice
				rows[first+second+"flow i;"] = api.ErrTwice
			}
			for _, second := range items("z") {
				rows[first+between+second] = api.OK
				rows[first+second+first] = api.ErrTwice
			}
			rows[first+between] = api.OK
		}
	}
	checkItems(t, rows)
}

// What else has a name may share it.
func TestNamesThatMayBeShared(t *testing.T) {
	checkItems(t, map[string]api.Errno{
		"var A; var B; var P; var m; var i;":                                     api.OK,
		"part B: B; part P: P;":                                                  api.OK,
		"var x; start x = 1; start x = 2; start der(x) = 1;":                     api.OK,
		"for i in 1..2 do end; for i in 1..2 do end; var i;":                     api.OK,
		"for i in 1..2 do for i in 1..2 do for x in 1..2 do end; end; end;":      api.OK,
		"var i; param k = 1; for i in 1..2 do for k in 1..2 do i = k; end; end;": api.OK,
		"part b: B(k = 1, l = 2); part c: B(k = 1, l = 2); param k = 1; var l;":  api.OK,
		"var x; var X; var xx; var x_; var x1;":                                  api.OK,
		"x = 1; x = 1; connect(x, y); connect(x, y);":                            api.OK,
	})
}

func TestSizes(t *testing.T) {
	rows := map[string]api.Errno{}
	for n, want := range map[int]api.Errno{0: api.OK, 1: api.OK, 2: api.OK, 15: api.OK, 16: api.OK, 17: api.ErrLong, 18: api.ErrLong, 32: api.ErrLong, 1000000: api.ErrLong} {
		rows[fmt.Sprintf("var x[%d];", n)] = want
		rows[fmt.Sprintf("var x[%d]: m;", n)] = want
		rows[fmt.Sprintf("part p[%d]: B;", n)] = want
		rows[fmt.Sprintf("part p[%d]: P;", n)] = want
		rows[fmt.Sprintf("x[%d] = y[%d].z[%d];", n, n, n)] = api.OK
		rows[fmt.Sprintf("start x[%d] = 1;", n)] = api.OK
		rows[fmt.Sprintf("param k = %d;", n)] = api.OK
	}
	checkItems(t, rows)
}

// Which of two errors of one item is told.
func TestOrderWithinAnItem(t *testing.T) {
	checkItems(t, map[string]api.Errno{
		"flow x; flow x;":                              api.ErrClass,
		"param x = 1; flow x[17]: kg;":                 api.ErrClass,
		"param x = 1; var x[17]: kg;":                  api.ErrTwice,
		"var x[17]: kg;":                               api.ErrLong,
		"var x[17]: big^64;":                           api.ErrLong,
		"var x[16]: kg;":                               api.ErrName,
		"var x: big; param x: kg = time;":              api.ErrTwice,
		"param x: kg = time;":                          api.ErrName,
		"param x: kg = 1;":                             api.ErrName,
		"param x: m = time;":                           api.ErrClass,
		"var p; part p[17]: Z(j = time);":              api.ErrTwice,
		"part p[17]: Z(j = time);":                     api.ErrLong,
		"part p[17]: B(k = time);":                     api.ErrLong,
		"part p[16]: Z(k = time, k = time);":           api.ErrName,
		"part p: B(k = time, j = 1);":                  api.ErrClass,
		"part p: B(j = time);":                         api.ErrName,
		"part p: B(j = 1, j = 1);":                     api.ErrName,
		"part p: B(k = 1, k = time);":                  api.ErrTwice,
		"part p: B(k = 1, j = 1, k = 1);":              api.ErrName,
		"part p: B(k = 1, l = time, k = 1);":           api.ErrClass,
		"part p: B(k = 1, l = q, k = time);":           api.ErrName,
		"part p: B(k = 1, l = 1, l = q, j = 1);":       api.ErrTwice,
		"start x in [time, y];":                        api.ErrClass,
		"start x in [y, time];":                        api.ErrName,
		"start x in [1, time];":                        api.ErrClass,
		"start x in [1, y];":                           api.ErrName,
		"for i in 0..16 do for j in 0..3 do end; end;": api.ErrLong,
	})
}

func TestDimensions(t *testing.T) {
	rows := map[string]api.Errno{}
	for dim, want := range map[string]api.Errno{
		"": api.OK, ": 1": api.OK, ": m": api.OK, ": big": api.OK, ": m^2 / big": api.OK, ": (m * 1)^(-1/2)": api.OK, ": (m^64)^64": api.OK,
		": kg": api.ErrName, ": M": api.ErrName, ": m * kg": api.ErrName, ": kg^2": api.ErrName, ": 1 / (m / kg)": api.ErrName, ": A": api.ErrName, ": x": api.ErrName,
		": ((((((((((big^64)^64)^64)^64)^64)^64)^64)^64)^64)^64)":      api.ErrOver,
		": ((((((((((big^64)^64)^64)^64)^64)^64)^64)^64)^64)^64) * kg": api.ErrOver,
		": kg * ((((((((((big^64)^64)^64)^64)^64)^64)^64)^64)^64)^64)": api.ErrName,
	} {
		rows["var x"+dim+";"] = want
		rows["var x[2]"+dim+";"] = want
		rows["param x"+dim+" = 1;"] = want
		rows["var y; var x"+dim+"; var y;"] = want
		if want == api.OK {
			rows["var y; var x"+dim+"; var y;"] = api.ErrTwice
		}
	}
	checkItems(t, rows)
	checkText(t, "connector P var x: v; flow y: a; end; unit m; unit s; unit v = m / s; unit a = v / s;", api.OK, "") // units behind
	checkText(t, "connector P var x: v; flow y: b; end; unit m; unit s; unit v = m / s; unit a = v / s;", api.ErrName, "P")
}

func TestLoops(t *testing.T) {
	rows := map[string]api.Errno{}
	for _, from := range []int{0, 1, 2, 16, 17, 500, 999984} {
		for _, n := range []int{-1, 0, 1, 2, 15, 16, 17, 18, 100} { // so many rounds
			to := from + n - 1
			if to < 0 || to > 1000000 {
				continue
			}
			want := api.OK
			if n > 16 {
				want = api.ErrLong
			}
			loop := fmt.Sprintf("for i in %d..%d do x[i] = 1; end;", from, to)
			rows[loop] = want
			rows["for j in 1..2 do y = 1; "+loop+" end;"] = want
			rows["for j in 16..1 do for i in 1..16 do connect(a, b); "+loop+" end; end;"] = want
			rows["for j in 1..2 do for i in 1..2 do end; "+loop+" for k in 1..99 do end; end;"] = api.ErrLong
			rows["for j in 1..17 do "+loop+" end;"] = api.ErrLong
			rows["var x; "+loop+" var x;"] = want
			if want == api.OK {
				rows["var x; "+loop+" var x;"] = api.ErrTwice
			}
		}
	}
	rows["for i in 1000000..0 do end;"] = api.OK
	rows["for i in 0..1000000 do end;"] = api.ErrLong
	rows["for i in 0..0 do end;"] = api.OK
	checkItems(t, rows)
}

// What stands in a loop, or in an equation, is looked at no further.
func TestRulesAreNotLookedAt(t *testing.T) {
	checkItems(t, map[string]api.Errno{
		"for i in 1..2 do connect(q[i].r, s); q[j + 3].r = der(u) + sqrt(time); end;": api.OK,
		"q.r[7] = w;":      api.OK,
		"connect(q, q.r);": api.OK,
		"start q[1].r[2] = 1; start der(q.r[3]) in [1, 2];": api.OK,
	})
}
