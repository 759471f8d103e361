package check_test

import (
	"strings"
	"testing"

	"orrery/api"
)

// Expressions beside the parameters k and l that are there; j is a parameter that may not be named, x a variable, p a part.
func constants() map[string]api.Errno {
	return map[string]api.Errno{
		"1": api.OK, "0": api.OK, "1.5": api.OK, "k": api.OK, "l": api.OK, "-1": api.OK, "-k": api.OK, "--k": api.OK,
		"k + 1": api.OK, "1 - k": api.OK, "k * l": api.OK, "k / l": api.OK, "1 / 0": api.OK, "k^2": api.OK, "(k + l)^-64": api.OK, "0^-1": api.OK,
		"-(k + 1) * (2 - l^3) / (k^0 - -7)": api.OK,

		"j": api.ErrName, "x": api.ErrName, "p": api.ErrName, "q": api.ErrName, "K": api.ErrName, "kk": api.ErrName, "m": api.ErrName, "A": api.ErrName, "i": api.ErrName,
		"k.l": api.ErrName, "k.k": api.ErrName, "p.k": api.ErrName, "k.x": api.ErrName, "k.k.k": api.ErrName,
		"k[1]": api.ErrName, "k[0]": api.ErrName, "k[i]": api.ErrName, "k[k]": api.ErrName, "k[k + 1]": api.ErrName, "k[k - 1]": api.ErrName, "p[1].k": api.ErrName, "k[1].k": api.ErrName, "k.k[1]": api.ErrName,
		"-j": api.ErrName, "j + 1": api.ErrName, "1 + j": api.ErrName, "1 - j": api.ErrName, "j * k": api.ErrName, "k * j": api.ErrName, "k / j": api.ErrName, "j^2": api.ErrName, "1 + (2 - (3 * (k / (j^2))))": api.ErrName,

		"time": api.ErrClass, "der(k)": api.ErrClass, "der(j)": api.ErrClass, "der(p.k)": api.ErrClass, "der(k[1])": api.ErrClass,
		"sqrt(1)": api.ErrClass, "exp(k)": api.ErrClass, "log(1)": api.ErrClass, "sin(0)": api.ErrClass, "cos(0)": api.ErrClass, "atan(k)": api.ErrClass,
		"sqrt(j)": api.ErrClass, "exp(time)": api.ErrClass, "-time": api.ErrClass, "time^2": api.ErrClass, "1 + time": api.ErrClass, "1 - time": api.ErrClass, "k * time": api.ErrClass, "k / der(x)": api.ErrClass, "-(1 + sin(j))": api.ErrClass,

		"j + time": api.ErrName, "time + j": api.ErrClass, "j * sin(1)": api.ErrName, "sin(1) * j": api.ErrClass, "(1 + j) - der(k)": api.ErrName, "(1 + der(k)) / j": api.ErrClass,
		"k - (j - time)": api.ErrName, "k - (time - j)": api.ErrClass, "(k + l) * (k + (time^2)) + j": api.ErrClass, "(k + l) * (k + (j^2)) + time": api.ErrName, "k[1] + time": api.ErrName, "time + k[1]": api.ErrClass,
	}
}

// Over the parameters ahead.
func TestParameters(t *testing.T) {
	rows := map[string]api.Errno{}
	for x, want := range constants() {
		rows["param k = 1; part p: B; param l = k; var x; param y = "+x+"; param j = 1;"] = want
		rows["var x; param k = 1; param l: m = 2; for i in 1..2 do end; start x = j; param y: big = "+x+"; part p: B; param j = 1;"] = want
	}
	for items, want := range map[string]api.Errno{
		"param k = k;":                             api.ErrName, // not ahead of itself
		"param k = k + time;":                      api.ErrName,
		"param k = 1; param l = k; param m = l;":   api.OK,
		"param k = 1; param l = m; param m = k;":   api.ErrName,
		"param k = 1; param l = l;":                api.ErrName,
		"var k; param l = k;":                      api.ErrName,
		"part k: B; param l = k;":                  api.ErrName,
		"part b: B; param l = k;":                  api.ErrName, // another class's
		"param y = 1; start x = 1; param z = y^2;": api.OK,
	} {
		rows[items] = want
	}
	checkItems(t, rows)
}

// Over all of the class's parameters, ahead or behind: starts and modifiers.
func TestStartsAndModifiers(t *testing.T) {
	rows := map[string]api.Errno{}
	for x, want := range constants() {
		for _, item := range []string{
			"start x = @;", "start x in [1, @];", "start x in [@, k];", "start der(x) = @;", "start y.z in [l, @];",
			"part b: B(k = @);", "part b: B(l = @);", "part b: B(l = 1, k = @);", "part b[3]: B(k = @, l = k);",
		} {
			item = strings.Replace(item, "@", x, 1)
			rows["param k = 1; param l = k; var x; part p: B; "+item] = want
			rows[item+"param k = 1; var x; part p: B; param l = k;"] = want
			rows["param k = 1; "+item+" param l = k; var x;"] = want
		}
	}
	checkItems(t, rows)
}

// A modifier's name is a parameter of the part's class; what it is told by are those of the class in which the part stands.
func TestModifiers(t *testing.T) {
	checkItems(t, map[string]api.Errno{
		"part b: B;":                                         api.OK,
		"part b: B(k = 1);":                                  api.OK,
		"part b: B(l = 1, k = 2);":                           api.OK,
		"part b: B(k = k);":                                  api.ErrName,
		"part b: B(k = l); param l = 1;":                     api.OK,
		"part b: B(k = k); param k = 1;":                     api.OK,
		"part b: B(k = 1, l = k);":                           api.ErrName,
		"part b: B(k = a); param a = 1;":                     api.OK,
		"part b: B(a = 1); param a = 1;":                     api.ErrName, // no parameter of B
		"part b: B(z = 1);":                                  api.ErrName, // a variable of B
		"part b: B(b = 1);":                                  api.ErrName,
		"part b: B(K = 1);":                                  api.ErrName,
		"part b: P(e = 1);":                                  api.ErrName,
		"part b: P(k = 1);":                                  api.ErrName,
		"part b: B(k = 1, k = 1);":                           api.ErrTwice,
		"part b: B(k = 1, l = 1, k = 2);":                    api.ErrTwice,
		"part b: B(k = 1); part c: B(k = 1);":                api.OK,
		"part b: b;":                                         api.ErrName,
		"part b: k;":                                         api.ErrName,
		"part b: m;":                                         api.ErrName, // a unit
		"part b: C; ":                                        api.ErrName,
		"var B; part b: B(k = 2); param z = 1; start b = z;": api.OK,
	})
	checkTexts(t, map[string]said{
		"model A param a = 1; part b: B(k = a); end; model B param k = 1; end;":                   {api.OK, ""},
		"model A param a = 1; part b: B(k = k); end; model B param k = 1; end;":                   {api.ErrName, "A"},
		"model A part b: B(k = 1); end; model B param k = 1; param j = i; end;":                   {api.ErrName, "B"},
		"model A part b: B(k = 1); end; model B var x; for i in 1..2 do end; param k = 2; end;":   {api.OK, ""}, // behind what is none
		"model A part b: B(j = 1); end; model B part c: C(j = 1); end; model C param j = 1; end;": {api.ErrName, "A"},
	})
}
