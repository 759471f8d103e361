package symb_test

import (
	"fmt"
	"slices"
	"strings"
	"testing"

	"orrery/api"
	"orrery/symb"
)

// The derivative of each kind of node, by the document's rows, with all nodes in the order in which they stand.
func TestDerivativeOfEachKind(t *testing.T) {
	derivesTo(t, [][2]string{
		{"5 ;", "5 ; 0 !"},
		{"0 ;", "0 ; #0 !"},
		{"x ;", "x ; x' !"},
		{"y''' ;", "y''' ; y'''' !"},
		{"time ;", "time ; 1 !"},
		{"x y + ;", "x y + ; x' y' + !"},
		{"x y - ;", "x y - ; x' y' - !"},
		{"x y * ;", "x y * ; x' . y' . #3 #1 * #0 #4 * + !"},
		{"x y / ;", "x y / ; x' y' . #2 #4 * - #1 / !"},
		{"x neg ;", "x neg ; x' neg !"},
		{"x ^3 ;", "x ^3 ; x' . 3 #0 ^2 * #2 * !"},
		{"x sqrt ;", "x sqrt ; x' 2 #1 * / !"},
		{"x exp ;", "x exp ; #1 x' * !"},
		{"x log ;", "x log ; x' #0 / !"},
		{"x sin ;", "x sin ; x' . #0 cos #2 * !"},
		{"x cos ;", "x cos ; x' . #0 sin #2 * neg !"},
		{"x atan ;", "x atan ; x' 1 #0 ^2 + / !"},
	})
}

func TestDerivativesOfPowers(t *testing.T) {
	derivesTo(t, [][2]string{
		{"x ^2 ;", "x ^2 ; x' . 2 #0 * #2 * !"},
		{"x ^1 ;", "x ; x' !"},
		{"x ^0 ;", "1 ; 0 !"},
		{"x ^-1 ;", "x ^-1 ; x' . #0 ^-2 neg #2 * !"}, // -1 is made, and not needed
		{"x ^-2 ;", "x ^-2 ; x' . -2 #0 ^-3 * #2 * !"},
		{"x ^-63 ;", "x ^-63 ; x' . -63 #0 ^-64 * #2 * !"},
		{"x ^64 ;", "x ^64 ; x' . 64 #0 ^63 * #2 * !"},
		{"x sqrt ^0 ;", "x sqrt ^0 ; 0 !"}, // whatever its operand's derivative is
		{"x ^-1 ^0 ;", "x ^-1 ^0 ; 0 !"},
		{"time ^2 ;", "time ^2 ; 2 #0 * !"},
		{"time ^3 ;", "time ^3 ; 3 #0 ^2 * !"},
		{"2 ^63 ;", "2 ^63 ; 0 !"}, // 63 2^62 has no room, but is total
		{"0 ^-1 ;", "0 ^-1 ; #0 ^-2 neg #0 * !"},
		{"2 ^-63 ;", "2 ^-63 ; 0 . -63 #0 ^-64 * #2 * !"},
	})
}

// Derivatives are made in the same way as other nodes: each once, and as simple as it can be.
func TestDerivativesAreMadeSimple(t *testing.T) {
	derivesTo(t, [][2]string{
		{"time sqrt ;", "time sqrt ; 1 2 #1 * / !"},
		{"time exp ;", "time exp ; #1 !"},
		{"time log ;", "time log ; 1 #0 / !"},
		{"time cos ;", "time cos ; #0 sin neg !"},
		{"time atan ;", "time atan ; 1 #2 #0 ^2 + / !"},
		{"time neg ;", "time neg ; -1 !"},
		{"time #0 * ;", "time #0 * ; #0 #0 + !"},
		{"time 3 / ;", "time 3 / ; 1 0 . #2 #4 * - #1 / !"}, // a quotient times 0 stays
		{"x 5 + ;", "x 5 + ; x' !"},
		{"5 x + ;", "5 x + ; x' !"},
		{"x 5 - ;", "x 5 - ; x' !"},
		{"5 x - ;", "5 x - ; x' neg !"},
		{"5 x neg - ;", "5 x neg - ; x' !"},
		{"5 x * ;", "5 x * ; #0 x' * !"},
		{"x 5 * ;", "x 5 * ; x' #1 * !"},
		{"5 x / ;", "5 x / ; x' . #2 #3 * neg #1 / !"},
		{"x 5 / ;", "x 5 / ; x' 0 . #2 #4 * - #1 / !"},
		{"x log 5 * ;", "x log 5 * ; x' #0 / 0 . #2 * #1 #6 * + !"},
		{"5 log ;", "5 log ; 0 !"},
		{"5 exp ;", "5 exp ; 0 !"},
		{"5 sqrt ;", "5 sqrt ; 0 2 #1 * / !"},
		{"5 atan ;", "5 atan ; 0 !"},
		{"5 sin ;", "5 sin ; 0 !"},
		{"1 0 / ;", "1 0 / ; #2 #1 * neg #1 / !"},
		{"x #0 * ;", "x #0 * ; x' #0 * #0 #2 * + !"},
		{"x x' * ;", "x x' * ; x'' . #1 #1 * #0 #3 * + !"},
		{"x #0 / ;", "x #0 / ; x' #1 #2 * - #0 / !"},
		{"x #0 + ;", "x #0 + ; x' #2 + !"},
		{"x' x - ;", "x' x - ; x'' #0 - !"},
		{"x exp exp ;", "x exp exp ; x' . #2 #1 #3 * * !"},
		{"x sin ; x cos ;", "x sin ; #0 cos ; x' . #2 #3 * ! #1 #3 * neg !"},
	})
}

// Nodes of the built graph that no root needs have no derivatives, but may be found when some are made.
func TestDerivativesOfWhatIsNeeded(t *testing.T) {
	derivesTo(t, [][2]string{
		{"x'''''' . y ;", "y ; y' !"},
		{"x'''''' 0 * y + ;", "y ; y' !"},
		{"x'''''' #0 - ;", "0 ; #0 !"},
		{"x'''''' ^0 ;", "1 ; 0 !"},
		{"x ^-64 . y ;", "y ; y' !"},
		{"1 ^-64 ;", "1 ; 0 !"},
		{"x #0 - exp y + ;", "1 y + ; y' !"},
		{"2 x' * . x sin ;", "x sin ; x' . #0 cos #2 * !"},
		{"x' 0 * x sin + ;", "x' . x sin ; #1 cos #0 * !"}, // x' was there ahead
		{"x' cos 0 * x sin + ; x cos ;", "x' . x sin ; #1 cos ; #3 #0 * ! #2 #0 * neg !"},
	})
}

func TestRootsOfDiff(t *testing.T) {
	derivesTo(t, [][2]string{
		{"x ; #0 ; y ; #0 ;", "x ; #0 ; y ; #0 ; x' ! #2 ! y' ! #2 !"},
		{"x ; x' ; x'' ;", "x ; x' ; x'' ; #1 ! #2 ! x''' !"},
		{"x 0 + ; x ; x neg ; x neg neg ;", "x ; #0 ; #0 neg ; #0 ; x' ! #2 ! #2 neg ! #2 !"},
		{"5 ; 6 ; 0 ; 1 time . ;", "5 ; 6 ; 0 ; 1 ; #2 ! #2 ! #2 ! #2 !"},
		{"x y * ; #1 ; #0 ;", "x y * ; #1 ; #0 ; x' . y' . #3 #1 * #0 #4 * + ! #4 ! #3 !"},
	})
}

func TestDiffErrors(t *testing.T) {
	for text, want := range map[string]api.Errno{
		"x''''' ;":                   api.OK,
		"x'''''' ;":                  api.ErrLong,
		"x'''''' exp y + ;":          api.ErrLong,
		"y ; x'''''' ;":              api.ErrLong,
		"x'''''' sqrt ^0 ;":          api.ErrLong, // its operand needs one, if it needs none itself
		"x'''''' 2 ^63 * ;":          api.ErrLong,
		"x ^-63 ;":                   api.OK,
		"x ^-64 ;":                   api.ErrLong,
		"x ^-64 ^0 ;":                api.ErrLong,
		"x ^-64 #1 - ;":              api.ErrLong,
		"x ^-64 0 * ;":               api.ErrLong,
		"0 ^-64 ;":                   api.ErrLong,
		"2 ^-64 ;":                   api.ErrLong,
		"time ^-64 ;":                api.ErrLong,
		"1 ^-64 ;":                   api.OK,
		"-1 ^-64 ;":                  api.OK,
		"x ^-64 ^-1 ;":               api.ErrLong,
		"x ^64 ;":                    api.OK,
		"x'''''' . x ^-64 . 1 0 / ;": api.OK,
	} {
		if got, e := diffed(t, read(text)); e != want {
			t.Errorf("%s: %d, %v; want %d", text, e, got, want)
		}
		if _, e := built(t, read(text)); e != api.OK {
			t.Errorf("%s: %d", text, e)
		}
	}
}

// Differentiated again and again, a variable comes to its end behind MaxDiff times.
func TestDiffAgain(t *testing.T) {
	for text, most := range map[string]int{"x ;": 6, "x'' ;": 4, "x y' + ;": 5, "x sin ;": 6, "time sin ;": 9, "3 ;": 9, "x ^-60 ;": 4, "x ^-63 ;": 1, "x 0 * ;": 9} {
		g := read(text)
		for n := 1; ; n++ {
			next, e := diffed(t, g)
			if e != api.OK {
				if n != most+1 || e != api.ErrLong {
					t.Errorf("%s: %d, after %d", text, e, n)
				}
				break
			}
			if n == 9 {
				if most < n {
					t.Errorf("%s: none too many", text)
				}
				break
			}
			g = asked{nodes: next.nodes, roots: next.rates}
		}
	}
}

// just asks for derivatives of graphs that make so many nodes in all.
func just(t *testing.T, g asked, all int) {
	t.Helper()
	got, e := diff(g)
	if want := map[bool]api.Errno{true: api.OK, false: api.ErrLong}[all <= 4000]; e != want {
		t.Errorf("%d nodes: %d, want %d", all, e, want)
	}
	if e != api.OK && (len(got.nodes) > 0 || len(got.roots) > 0 || len(got.rates) > 0) {
		t.Errorf("%d nodes: %d, with %d nodes", all, e, len(got.nodes))
	}
}

// allRoots has each node as a root.
func allRoots(nodes []api.Node) asked {
	g := asked{nodes: nodes}
	for i := range nodes {
		g.roots = append(g.roots, i)
	}
	return g
}

func TestMostNodesOfDiff(t *testing.T) {
	variables := func(n int) []api.Node {
		var nodes []api.Node
		for v := range n {
			nodes = append(nodes, variable(v, v%6))
		}
		return nodes
	}
	for n := 1998; n <= 2002; n++ {
		just(t, allRoots(variables(n)), 2*n)
		just(t, allRoots(append(variables(n), whole(0))), 2*n+1)
		just(t, allRoots(append(variables(n), whole(5))), 2*n+2)
		g := asked{nodes: variables(n), roots: []int{0}}
		g.nodes = append(g.nodes, variables(n)...) // that no root needs
		if n <= 2000 {
			just(t, g, 2)
		}
	}
	got, e := diff(allRoots(variables(2000)))
	if e != api.OK || len(got.nodes) != 4000 || got.rates[1999] != 3999 || got.roots[1999] != 1999 {
		t.Error(e, len(got.nodes))
	}
}

// Nodes that the built graph has, though no root needs them any more, count; so do those that are made on the way to a derivative.
func TestMostNodesAheadOfClearing(t *testing.T) {
	for n := 3997; n <= 4000; n++ {
		nodes := []api.Node{whole(1)}
		for len(nodes) < n {
			nodes = append(nodes, api.Node{Kind: api.TAdd, A: len(nodes) - 1})
		}
		g := asked{nodes: nodes, roots: []int{n - 1}}
		just(t, g, n+1) // 1 to n, and 0
		if got, e := diff(g); e == api.OK && !got.same(asked{[]api.Node{whole(int64(n)), whole(0)}, []int{0}, []int{1}}) {
			t.Error(n, got)
		}
		g.nodes[0] = whole(0)
		g.nodes[1] = whole(1)
		for i := range g.nodes[2:] {
			g.nodes[2+i].B = 1
		}
		just(t, g, n) // 0 is there
	}
	for n := 794; n <= 804; n++ { // x^-1 of n variables, each to the power 0
		var g asked
		for v := range n {
			at := 3 * v
			g.nodes = append(g.nodes, variable(v, 0), api.Node{Kind: api.TPow, A: at, N: -1}, api.Node{Kind: api.TPow, A: at + 1})
			g.roots = append(g.roots, at+2)
		}
		just(t, g, 3*n+4*n+2) // x', x^-2, its negative, times x'; -1 and 0
	}
	for n := 565; n <= 575; n++ {
		var g asked
		for v := range n {
			at := 3 * v
			g.nodes = append(g.nodes, variable(v, 0), api.Node{Kind: api.TPow, A: at, N: -1}, api.Node{Kind: api.TPow, A: at + 1})
			g.roots = append(g.roots, at+2)
		}
		just(t, g, 7*n+2)
		if got, e := diff(g); e == api.OK && len(got.nodes) != 3*n+1 {
			t.Error(n, len(got.nodes))
		}
	}
}

// behind has numbers ahead of a graph, from 0 and from 100 on, each of them a root: none of them makes more than itself.
func (g asked) behind(n int) asked {
	to := allRoots([]api.Node{whole(0)})
	for i := range n - 1 {
		to.nodes = append(to.nodes, whole(int64(100+i)))
		to.roots = append(to.roots, i+1)
	}
	for _, node := range g.nodes {
		node.A += n
		node.B += n
		to.nodes = append(to.nodes, node)
	}
	for _, r := range g.roots {
		to.roots = append(to.roots, r+n)
	}
	return to
}

// Whichever node is one too many, it is told.
func TestOneNodeTooMany(t *testing.T) {
	for text, made := range map[string]int{
		"x ;":                         2,
		"time ;":                      2,
		"x y + ;":                     6,
		"x y - ;":                     6,
		"x y * ;":                     8,
		"x y / ;":                     8,
		"x neg ;":                     4,
		"x ^5 ;":                      7,
		"x ^2 ;":                      6,
		"x ^-1 ;":                     7,
		"x ^-2 ;":                     7,
		"x sqrt ;":                    6,
		"x exp ;":                     4,
		"x log ;":                     4,
		"x sin ;":                     5,
		"x cos ;":                     6,
		"x atan ;":                    7,
		"x sqrt ^0 ;":                 7, // 2, its product with the root, and the quotient are not needed
		"x ^2 ; x 2 ^-2 * ; x #0 - ;": 9, // 2 is needed by none of the built roots
	} {
		g := read(text)
		for all := 3998; all <= 4002 && all-made+len(g.nodes) <= 4000; all++ {
			just(t, g.behind(all-made), all)
		}
		if _, e := diffed(t, g.behind(1)); e != api.OK {
			t.Error(text, e)
		}
	}
}

// x to the power 2^n, by squares: n of them make four nodes each, in all.
func TestMostSquares(t *testing.T) {
	for n := 996; n <= 1002; n++ {
		g := asked{nodes: []api.Node{variable(0, 0)}, roots: []int{n}}
		for i := range n {
			g.nodes = append(g.nodes, api.Node{Kind: api.TMul, A: i, B: i})
		}
		just(t, g, 2+4*n)
	}
}

// deep is a node in many others, and the kinds that stand one in another.
func deep(n int, kinds ...int) asked {
	g := asked{nodes: []api.Node{variable(0, 0)}, roots: []int{n - 1}}
	for len(g.nodes) < n {
		node := api.Node{Kind: kinds[len(g.nodes)%len(kinds)], A: len(g.nodes) - 1}
		if node.Kind == api.TPow {
			node.N = 3
		}
		g.nodes = append(g.nodes, node)
	}
	return g
}

func TestDeep(t *testing.T) {
	for _, kinds := range [][]int{{api.TSin}, {api.TSqrt}, {api.TPow}, {api.TExp, api.TNeg}, {api.TCos, api.TAtan, api.TLog}} {
		g := deep(4000, kinds...)
		got, e := build(g)
		if e != api.OK || !got.same(g) {
			t.Errorf("%v: %d, %d nodes", kinds, e, len(got.nodes))
		}
		if k, e := symb.Uses(g.nodes, 3999); e != api.OK || !slices.Equal(k, []api.Key{{}}) {
			t.Errorf("%v: %d, %v", kinds, e, k)
		}
		if _, e := diff(g); e != api.ErrLong {
			t.Errorf("%v: %d", kinds, e)
		}
	}
	if got, e := diff(deep(1333, api.TSin)); e != api.OK || len(got.nodes) != 3998 { // x, x', and three of each sine
		t.Errorf("%d, %d", e, len(got.nodes))
	}
	if _, e := diff(deep(1334, api.TSin)); e != api.ErrLong {
		t.Error(e)
	}
}

// A long sum has a long derivative, term by term.
func TestLongSum(t *testing.T) {
	var sum []string
	for i := range 100 {
		sum = append(sum, fmt.Sprintf("%d x ^%d *", i+2, i%60+2))
		if i > 0 {
			sum = append(sum, "+")
		}
	}
	got, e := diffed(t, read(strings.Join(sum, " ")+" ;"))
	if e != api.OK || got.nodes[got.rates[0]].Kind != api.TAdd {
		t.Error(e, len(got.nodes))
	}
}
