package symb_test

import (
	"slices"
	"testing"

	"orrery/api"
)

// The rows of the chapter's examples.
func TestExamples(t *testing.T) {
	buildsTo(t, [][2]string{
		{"x 0 + 1 * x - ;", "0 ;"},
		{"1 x / 1 x / - ;", "1 x / #2 - ;"},
		{"2 3 * y + ; 6 y + ;", "6 y + ; #2 ;"},
	})
	derivesTo(t, [][2]string{
		{"x #0 * ;", "x #0 * ; x' #0 * #0 #2 * + !"},
		{"time sin ;", "time sin ; #0 cos !"},
	})
}

// Rule 1: numbers of numbers.
func TestNumbers(t *testing.T) {
	buildsTo(t, [][2]string{
		{"2 3 + ;", "5 ;"},
		{"1/2 1/3 + ;", "5/6 ;"},
		{"2 3 - ;", "-1 ;"},
		{"2 -3 * ;", "-6 ;"},
		{"2/3 3/4 * ;", "1/2 ;"},
		{"2 6 / ;", "1/3 ;"},
		{"0 6 / ;", "0 ;"},
		{"6 -4 / ;", "-3/2 ;"},
		{"3/4 neg ;", "-3/4 ;"},
		{"-3/4 neg ;", "3/4 ;"},
		{"0 neg ;", "0 ;"},
		{"2/3 ^-2 ;", "9/4 ;"},
		{"2/3 ^3 ;", "8/27 ;"},
		{"-2/3 ^0 ;", "1 ;"},
		{"0 ^0 ;", "1 ;"},
		{"0 ^64 ;", "0 ;"},
		{"1 ^64 ;", "1 ;"},
		{"-1 ^-63 ;", "-1 ;"},
		{"1 ^-64 ;", "1 ;"},
		{"2 ^62 ;", "4611686018427387904 ;"},
		{"5 ^1 ;", "5 ;"},
		{"5 ^-1 ;", "1/5 ;"},
		{"2 3 + 4 * 5 - neg ^2 ;", "225 ;"},
	})
}

func TestNumbersOfFunctions(t *testing.T) {
	buildsTo(t, [][2]string{
		{"0 sqrt ;", "0 ;"},
		{"1 sqrt ;", "1 ;"},
		{"0 exp ;", "1 ;"},
		{"1 log ;", "0 ;"},
		{"0 sin ;", "0 ;"},
		{"0 cos ;", "1 ;"},
		{"0 atan ;", "0 ;"},
		{"4 sqrt ;", "4 sqrt ;"},
		{"-1 sqrt ;", "-1 sqrt ;"},
		{"1/4 sqrt ;", "1/4 sqrt ;"},
		{"1 exp ;", "1 exp ;"},
		{"-1 exp ;", "-1 exp ;"},
		{"0 log ;", "0 log ;"},
		{"-1 log ;", "-1 log ;"},
		{"2 log ;", "2 log ;"},
		{"1/2 log ;", "1/2 log ;"},
		{"1 sin ;", "1 sin ;"},
		{"1 cos ;", "1 cos ;"},
		{"-1 cos ;", "-1 cos ;"},
		{"1 atan ;", "1 atan ;"},
		{"x #0 - exp ;", "1 ;"},
		{"x exp ; x log ; x sin ; x cos ; x atan ; x sqrt ;", "x exp ; #0 log ; #0 sin ; #0 cos ; #0 atan ; #0 sqrt ;"},
		{"1 2 - neg sqrt log cos atan ;", "1 atan ;"},
		{"1 log exp sqrt log sin ;", "0 ;"},
	})
}

// A number of which rat tells an error is not made: the node stands as it is, or becomes what rule 2 says.
func TestNumbersWithoutRoom(t *testing.T) {
	same := []string{
		"9223372036854775807 1 + ;",
		"9223372036854775807 #0 + ;",
		"1 9223372036854775807 + ;",
		"-9223372036854775807 1 - ;",
		"-9223372036854775807 9223372036854775807 - ;",
		"4611686018427387904 2 * ;",
		"-4611686018427387904 2 * ;",
		"4294967296 #0 * ;",
		"1/9223372036854775807 1/9223372036854775806 + ;",
		"1/4611686018427387904 2 / ;",
		"9223372036854775807 1/2 / ;",
		"1 0 / ;",
		"0 #0 / ;",
		"-1/2 0 / ;",
		"0 ^-1 ;",
		"0 ^-64 ;",
		"2 ^63 ;",
		"2 ^-63 ;",
		"1/2 ^64 ;",
		"3 ^-64 ;",
		"-7 ^23 ;",
		"1 0 / #2 - ;",
		"1 0 / #1 * ;",
		"1 0 / ^0 ;",
		"0 ^-1 #1 - ;",
	}
	for _, text := range same {
		buildsTo(t, [][2]string{{text, text}})
	}
	buildsTo(t, [][2]string{
		{"2 ^63 #1 - ;", "0 ;"}, // total, without a number
		{"2 ^63 ^0 ;", "1 ;"},
		{"2 ^63 0 * ;", "0 ;"},
		{"2 ^63 ^1 ;", "2 ^63 ;"},
		{"0 2 ^63 - ;", "2 ^63 neg ;"},
		{"0 ^-1 ^1 ;", "0 ^-1 ;"},
		{"9223372036854775807 0 + ;", "9223372036854775807 ;"},
		{"9223372036854775807 -1 * ;", "-9223372036854775807 ;"},
		{"1/9223372036854775807 ^-1 ;", "9223372036854775807 ;"},
		{"9223372036854775806 1 + ;", "9223372036854775807 ;"},
	})
}

func TestSums(t *testing.T) {
	buildsTo(t, [][2]string{
		{"x 0 + ;", "x ;"},
		{"0 x + ;", "x ;"},
		{"x 1 + ;", "x 1 + ;"},
		{"1 x + ;", "1 x + ;"},
		{"x -1 + ;", "x -1 + ;"},
		{"x #0 + ;", "x #0 + ;"},
		{"x y + ; y x + ;", "x y + ; #1 #0 + ;"},
		{"1 x / 0 + ;", "1 x / ;"},
		{"0 1 x / + ;", "1 x / ;"},
		{"x #0 - y + ;", "y ;"},
		{"x #0 neg + ;", "x #0 neg + ;"},
		{"0 #0 + ;", "0 ;"},
	})
}

func TestDifferences(t *testing.T) {
	buildsTo(t, [][2]string{
		{"x 0 - ;", "x ;"},
		{"0 x - ;", "x neg ;"},
		{"0 x neg - ;", "x ;"},
		{"0 x - y - ;", "x neg y - ;"},
		{"x neg neg 0 x neg - - ;", "0 ;"},
		{"0 x - neg ;", "x ;"},
		{"0 0 x - - ;", "x ;"},
		{"x 1 - ;", "x 1 - ;"},
		{"1 x - ;", "1 x - ;"},
		{"-1 x - ;", "-1 x - ;"},
		{"x #0 - ;", "0 ;"},
		{"x x - ;", "0 ;"},
		{"x x' - ;", "x x' - ;"},
		{"x y - ;", "x y - ;"},
		{"time time - ;", "0 ;"},
		{"x exp sin #2 - ;", "0 ;"},
		{"1 x / 0 - ;", "1 x / ;"},
		{"0 1 x / - ;", "1 x / neg ;"},
		{"0 #0 - ;", "0 ;"},
	})
}

func TestProducts(t *testing.T) {
	buildsTo(t, [][2]string{
		{"1 x * ;", "x ;"},
		{"x 1 * ;", "x ;"},
		{"0 x * ;", "0 ;"},
		{"x 0 * ;", "0 ;"},
		{"-1 x * ;", "x neg ;"},
		{"x -1 * ;", "x neg ;"},
		{"-1 x neg * ;", "x ;"},
		{"x neg -1 * ;", "x ;"},
		{"-1 -1 x * * ;", "x ;"},
		{"2 x * ; x 2 * ;", "2 x * ; #1 #0 * ;"},
		{"1/2 x * ;", "1/2 x * ;"},
		{"x #0 * ;", "x #0 * ;"},
		{"1 x log * ;", "x log ;"},
		{"x log 1 * ;", "x log ;"},
		{"-1 x log * ;", "x log neg ;"},
		{"x log -1 * ;", "x log neg ;"},
		{"1 2 - x * ;", "x neg ;"},
		{"0 1 * ; 1 0 * ; 0 -1 * ; -1 0 * ;", "0 ; #0 ; #0 ; #0 ;"},
		{"0 neg x * ;", "0 ;"},
	})
}

func TestQuotientsAndNegatives(t *testing.T) {
	buildsTo(t, [][2]string{
		{"x 1 / ;", "x ;"},
		{"1 x / ;", "1 x / ;"},
		{"0 x / ;", "0 x / ;"},
		{"x #0 / ;", "x #0 / ;"},
		{"x -1 / ;", "x -1 / ;"},
		{"x 2 / ;", "x 2 / ;"},
		{"x 0 / ;", "x 0 / ;"},
		{"x log 1 / ;", "x log ;"},
		{"x 3 2 - / ;", "x ;"},
		{"x neg ;", "x neg ;"},
		{"x neg neg ;", "x ;"},
		{"x neg neg neg ;", "x neg ;"},
		{"x neg neg neg neg ;", "x ;"},
		{"1 x / neg neg ;", "1 x / ;"},
		{"x neg y neg * ;", "x neg y neg * ;"},
	})
}

func TestPowers(t *testing.T) {
	buildsTo(t, [][2]string{
		{"x ^1 ;", "x ;"},
		{"x ^0 ;", "1 ;"},
		{"x ^-1 ;", "x ^-1 ;"},
		{"x ^-1 ^-1 ;", "x ^-1 ^-1 ;"},
		{"x ^2 ;", "x ^2 ;"},
		{"x ^64 ;", "x ^64 ;"},
		{"x ^-64 ;", "x ^-64 ;"},
		{"x ^64 ^0 ;", "1 ;"},
		{"x sqrt ^1 ;", "x sqrt ;"},
		{"x sqrt ^0 ;", "x sqrt ^0 ;"},
		{"x ^-1 ^0 ;", "x ^-1 ^0 ;"},
		{"x ^-1 ^0 ^0 ;", "x ^-1 ^0 ^0 ;"},
		{"x ^-1 ^1 ;", "x ^-1 ;"},
		{"x ^2 ^3 ;", "x ^2 ^3 ;"},
		{"x ^2 ; x ^3 ; x ^2 ;", "x ^2 ; #0 ^3 ; #1 ;"},
		{"0 x * ^0 ;", "1 ;"},
	})
}

// Three rules ask for a total node; whether a node is, hangs on all that it needs.
func TestTotal(t *testing.T) {
	total := []string{"x", "x'", "time", "x y +", "x y -", "x y *", "x neg", "x ^2", "x ^64", "x exp", "x sin", "x cos", "x atan", "2 ^63", "1 exp", "x exp sin cos atan ^2 neg y + time * 3 -", "x 1 3 / *", "x 4 1 / +", "x 1 sqrt +", "x 2 ^-2 *", "9223372036854775807 1 +"}
	partial := []string{"1 x /", "x 2 /", "x sqrt", "x log", "x ^-1", "x ^-64", "2 log", "2 sqrt", "1 0 /", "0 ^-1", "3 ^-64"}
	for _, text := range total {
		for _, shape := range [][2]string{{"{} {} - ;", "0 ;"}, {"0 {} * ;", "0 ;"}, {"{} 0 * ;", "0 ;"}, {"{} ^0 ;", "1 ;"}} {
			checkShape(t, text, shape[0], shape[1])
		}
	}
	for _, part := range partial {
		for _, around := range []string{"", "neg", "exp", "^2", "^-2", "y +", "sin cos atan", "^0", "y -", "y *", "neg z +", "y /", "sqrt"} {
			text := part + " " + around
			for _, kind := range []int{api.TSub, api.TMul, api.TPow} {
				checkStays(t, text, kind)
			}
		}
		for _, around := range []string{"y {} +", "y {} -", "y {} *", "y {} /", "1 y {} ^2 + -"} {
			for _, kind := range []int{api.TSub, api.TMul, api.TPow} {
				checkStays(t, fill(around, part), kind)
			}
		}
	}
}

// checkStays asks that a last node of some kind, which would be a number if what is written were total, stays.
func checkStays(t *testing.T, text string, kind int) {
	t.Helper()
	shapes := map[int][]string{api.TSub: {"{} {} - ;"}, api.TMul: {"0 {} * ;", "{} 0 * ;"}, api.TPow: {"{} ^0 ;"}}
	for _, shape := range shapes[kind] {
		got, e := built(t, read(fill(shape, text)))
		if e != api.OK || len(got.roots) != 1 || got.nodes[got.roots[0]].Kind != kind {
			t.Errorf("%s: %d, %v", fill(shape, text), e, got)
		}
	}
}

func checkShape(t *testing.T, text, shape, want string) {
	t.Helper()
	buildsTo(t, [][2]string{{fill(shape, text), want}})
}

// A node that stands behind one that is not total, without needing it, is total all the same.
func TestTotalBeside(t *testing.T) {
	buildsTo(t, [][2]string{
		{"1 x / ; y #3 - ;", "1 x / ; 0 ;"},
		{"1 x / ; x 0 * ;", "1 x / ; 0 ;"},
		{"x sqrt #0 #0 - + ;", "x sqrt ;"},
		{"x log #0 ^0 + ;", "x log 1 + ;"},
		{"y x log 0 * + ;", "y x log 0 * + ;"},
		{"y x 0 * + ;", "y ;"},
	})
}

// Nodes that are the same are found, and only those.
func TestSame(t *testing.T) {
	buildsTo(t, [][2]string{
		{"x ; x ;", "x ; #0 ;"},
		{"x ; x' ; y ; y' ; x ; y' ;", "x ; x' ; y ; y' ; #0 ; #3 ;"},
		{"time ; time ;", "time ; #0 ;"},
		{"1 ; 2 2 / ; 1/2 ; 1 2 / ;", "1 ; #0 ; 1/2 ; #1 ;"},
		{"x y + ; x y + ;", "x y + ; #2 ;"},
		{"x y + ; x y - ; x y * ; x y / ; x y + ;", "x y + ; #0 #1 - ; #0 #1 * ; #0 #1 / ; #2 ;"},
		{"x ^2 ; x ^3 ; x ^2 ; x neg ; x exp ; x exp ;", "x ^2 ; #0 ^3 ; #1 ; #0 neg ; #0 exp ; #4 ;"},
		{"x y + exp ; x 0 + y + exp ;", "x y + exp ; #3 ;"},
		{"x neg ; 0 x - ; x -1 * ; -1 x * ;", "x neg ; #1 ; #1 ; #1 ;"},
		{"x 1 * y + x y + - ;", "0 ;"},
		{"x x * x x * + ;", "x #0 * #1 + ;"},
		{"3@1 ; 3@0,1 ; 3 ;", "3 ; #0 ; #0 ;"},
		{"3@1 x * 3 x * - ;", "0 ;"},
	})
}

// Dimensions of numbers are forgotten, whatever they are.
func TestDimensions(t *testing.T) {
	buildsTo(t, [][2]string{
		{"7@1 ;", "7 ;"},
		{"7@0,0,0,0,0,0,-1/2 ;", "7 ;"},
		{"7@9223372036854775807,-9223372036854775807/2 ;", "7 ;"},
		{"1@1,2 x * ;", "x ;"},
		{"0@1,2 x + ;", "x ;"},
		{"-1@0,5 x * ;", "x neg ;"},
		{"x 1@3 / ;", "x ;"},
		{"2@1 3@0,1 + ;", "5 ;"},
		{"0@1 sin ;", "0 ;"},
		{"1@1 sqrt ;", "1 ;"},
		{"5@1 exp ;", "5 exp ;"},
		{"0@1 ; 1@1 ;", "0 ; 1 ;"},
	})
	derivesTo(t, [][2]string{{"2@1 x * ;", "2 x * ; #0 x' * !"}})
}

// Nodes stand in the order in which they are made, as far as some root needs them.
func TestOrder(t *testing.T) {
	buildsTo(t, [][2]string{
		{"1 2 . . x ;", "x ;"},
		{"x y . ;", "x ;"},
		{"x y . exp ;", "x exp ;"},
		{"1 0 / . x ;", "x ;"},
		{"y x + ; x y + ;", "y x + ; #1 #0 + ;"},
		{"z y x + * ;", "z y x + * ;"},
		{"5 x + 0 y * + 5 / ;", "5 x + #0 / ;"},
		{"x 2 3 + * y + ;", "x 5 * y + ;"},
		{"2 3 x * + ;", "2 3 x * + ;"},
		{"x 0 * 0 y + ; ;", "0 y ; ;"},
		{"x #0 - 1 + x + ;", "x . 1 #0 + ;"},
	})
}

func TestRoots(t *testing.T) {
	g := read("x 0 + y - sin . 2 .") // x, 0, x + 0, y, - , sin, 2
	g = asked{nodes: g.nodes}
	for _, c := range []struct {
		roots, want []int
		nodes       string
	}{
		{nil, nil, ""},
		{[]int{}, nil, ""},
		{[]int{0}, []int{0}, "x ."},
		{[]int{2}, []int{0}, "x ."},
		{[]int{2, 0, 2}, []int{0, 0, 0}, "x ."},
		{[]int{5, 5}, []int{3, 3}, "x y - sin ."},
		{[]int{5, 3, 0}, []int{3, 1, 0}, "x y - sin ."},
		{[]int{6}, []int{0}, "2 ."},
		{[]int{6, 1}, []int{1, 0}, "0 2 . ."},
		{[]int{6, 5, 4, 3, 2, 1, 0}, []int{5, 4, 3, 2, 0, 1, 0}, "x 0 . y - sin . 2 ."},
	} {
		g.roots = c.roots
		got, e := built(t, g)
		if want := (asked{nodes: read(c.nodes).nodes, roots: c.want}); e != api.OK || !got.same(want) {
			t.Errorf("%v: %d, %v, want %v", g, e, got, want)
		}
	}
}

// No nodes, no roots: nothing is built.
func TestNothing(t *testing.T) {
	for _, g := range []asked{{}, {nodes: []api.Node{}, roots: []int{}}, {nodes: read("x sin ;").nodes}} {
		if got, e := built(t, g); e != api.OK || !got.same(asked{}) {
			t.Errorf("%v: %d, %v", g, e, got)
		}
		if got, e := diffed(t, g); e != api.OK || !got.same(asked{}) {
			t.Errorf("%v: %d, %v", g, e, got)
		}
	}
}

func TestUses(t *testing.T) {
	for text, want := range map[string][]api.Key{
		"5 ;":                         nil,
		"time sin 2 + ;":              nil,
		"x ;":                         {{}},
		"x' ;":                        {{K: 1}},
		"x x + x * ;":                 {{}},
		"x 0 + 1 * x - ;":             {{}}, // nothing is built
		"x 0 * ;":                     {{}},
		"x ^0 ;":                      {{}},
		"w y x z v u + + + + + ;":     {{V: 0}, {V: 1}, {V: 2}, {V: 3}, {V: 4}, {V: 5}},
		"x'' x'''''' x x' + + + ;":    {{}, {K: 1}, {K: 2}, {K: 6}},
		"y x'' - y' x * - y x' + + ;": {{}, {K: 1}, {K: 2}, {V: 1}, {V: 1, K: 1}},
		"x . y . z sin ;":             {{V: 2}},
		"x'''''' . z ;":               {{V: 2}},
		"x y . neg z . exp ;":         {{}},
	} {
		g := read(text)
		got, e := usedBy(t, g, g.roots[0])
		if e != api.OK || !slices.Equal(got, want) {
			t.Errorf("%s: %v, %d; want %v", text, got, e, want)
		}
	}
	for v, k := range map[int]int{1 << 40: 6, 1<<63 - 1: 0, 64: 1} {
		g := asked{nodes: []api.Node{variable(v, k), variable(0, 3), {Kind: api.TAdd, A: 0, B: 1}}}
		got, e := usedBy(t, g, 2)
		if want := []api.Key{{V: 0, K: 3}, {V: v, K: k}}; e != api.OK || !slices.Equal(got, want) {
			t.Errorf("%v, %d; want %v", got, e, want)
		}
	}
}

// Whichever node is the root, it uses what it needs alone.
func TestUsesOfEachNode(t *testing.T) {
	g := read("x' y + z'' * x exp + ;")
	want := [][]api.Key{{{K: 1}}, {{V: 1}}, {{K: 1}, {V: 1}}, {{V: 2, K: 2}}, {{K: 1}, {V: 1}, {V: 2, K: 2}}, {{}}, {{}}, {{}, {K: 1}, {V: 1}, {V: 2, K: 2}}}
	for i := range g.nodes {
		if got, e := usedBy(t, g, i); e != api.OK || !slices.Equal(got, want[i]) {
			t.Errorf("%d: %v, %d", i, got, e)
		}
	}
}
