package check_test

import (
	"fmt"
	"slices"
	"strings"
	"testing"

	"orrery/api"
	"orrery/check"
)

// partsText is a file of models: of "A>BC B C>A" A has parts of B and C, B none, C one of A.
func partsText(short string) string {
	text := ""
	for _, class := range strings.Fields(short) {
		name, parts, _ := strings.Cut(class, ">")
		text += "model " + name + " var x;"
		for i := range parts {
			text += fmt.Sprintf("part p%d: %c;", i, parts[i])
		}
		text += "end;"
	}
	return text
}

func TestCycles(t *testing.T) {
	for short, class := range map[string]string{
		"A B C":                      "",
		"A>B B":                      "",
		"B A>B":                      "",
		"A>BBBB B":                   "",
		"A>BC B>C C":                 "",
		"C B>C A>BC":                 "",
		"A>BC B>D C>D D":             "", // two ways to D, and no way back
		"D C>D B>D A>BC":             "",
		"A>A":                        "A",
		"A>A B>B":                    "A",
		"B>B A>A":                    "B",
		"A B>B":                      "B",
		"A>B B>B":                    "B", // A has no part of itself
		"B>B A>B":                    "B",
		"A>B B>A":                    "A",
		"B>A A>B":                    "B",
		"C>A A>B B>A":                "A",
		"A>B B>C C>A":                "A",
		"A>B C>A B>C":                "A",
		"B>C C>A A>B":                "B",
		"D>A A>B B>C C>B":            "B",
		"D>A A>B C>B B>C":            "C",
		"A>B B C>D D>C":              "C",
		"A>BCD B C D>A":              "A",
		"A>BCD B>CE C>E D>BE E":      "",
		"A>BCD B>CE C>E D>BE E>D":    "B", // A stands ahead, and has no part of itself
		"A>BC B>DE C>FG D E F G>C":   "C",
		"A>BC B>DE C>FG D E>E F G>C": "C",
		"E>E A>BC B>DE C>FG D F G>C": "E",
	} {
		e := api.OK
		if class != "" {
			e = api.ErrCycle
		}
		checkText(t, partsText(short), e, class)
	}
	for _, part := range []string{"part p: A;", "part p[0]: A;", "part p[16]: A;", "var x; part q: B; part p: A(k = 2);", "x = 1; part p: A; for i in 1..2 do end;"} {
		checkText(t, "model B end; model A param k = 1; "+part+" end;", api.ErrCycle, "A")
	}
	checkText(t, "connector P var x; end; model A part p: P; part q: P; end; model B part a: A; part p: P; end;", api.OK, "")
}

// Forty classes, each with parts of those behind it, and the last one perhaps with one of another.
func TestLongCycles(t *testing.T) {
	ring := func(n, parts, back int) string {
		text := ""
		for i := range n {
			text += fmt.Sprintf("model C%d ", i)
			for j := 1; j <= parts && i+j < n; j++ {
				text += fmt.Sprintf("part p%d: C%d;", j, i+j)
			}
			if i == n-1 && back >= 0 {
				text += fmt.Sprintf("part back: C%d;", back)
			}
			text += "end;"
		}
		return text
	}
	for _, n := range []int{1, 2, 39, 40} {
		for _, parts := range []int{1, 2, 5} {
			checkText(t, ring(n, parts, -1), api.OK, "")
			for _, back := range []int{0, n / 2, n - 1} {
				checkText(t, ring(n, parts, back), api.ErrCycle, fmt.Sprint("C", back))
			}
		}
	}
	full := file() // each class has parts of all behind it, as many as there is room for
	for i := range 40 {
		class := model(fmt.Sprint("C", i))
		for j := i + 1; j < 40; j++ {
			for k := range 4 {
				class.Kids = append(class.Kids, part(fmt.Sprint("p", j, "_", k), fmt.Sprint("C", j)))
			}
		}
		full.Kids = append(full.Kids, class)
	}
	checkTree(t, full, api.OK, "")
	slices.Reverse(full.Kids)
	checkTree(t, full, api.OK, "")
}

// A checked file is at the limits of all: it must end soon.
func TestLargeFiles(t *testing.T) {
	params := model("B")
	for i := range 660 {
		params.Kids = append(params.Kids, parameter(fmt.Sprint("k", i), number(1)))
	}
	parts := model("A")
	for i := range 2000 {
		parts.Kids = append(parts.Kids, part(fmt.Sprint("p", i), "B"))
	}
	if e, name := check.Check(file(parts, params)); e != api.OK || name != "" {
		t.Error(e, name)
	}
	units, vars := file(), model("A")
	for i := range 990 {
		units.Kids = append(units.Kids, named(api.DUnit, fmt.Sprint("u", i), tree(api.UOne)))
		vars.Kids = append(vars.Kids, variable(fmt.Sprint("x", i), 0, false))
	}
	for i := range 16 {
		vars.Kids[i*60].Kids[0].Kids = []api.Tree{named(api.UName, fmt.Sprint("u", i))}
	}
	units.Kids = append(units.Kids, vars)
	if e, name := check.Check(units); e != api.OK || name != "" {
		t.Error(e, name)
	}
}
