package flatten_test

// The chapter's words, gone through in another way: all that is made is written down as a row of words, without looking at limits, up to the first error; then the row is counted through. Items are found in one table, by the names that they have in the whole.

import (
	"fmt"
	"math"
	"math/big"
	"slices"
	"strings"

	"orrery/api"
	"orrery/check"
	"orrery/rat"
	"orrery/unit"
)

// Kinds of what is counted.
const (
	ofVar = iota
	ofInstance
	ofNode
	ofEquation
	ofRule
	kinds
)

func limits() [kinds]int { return [kinds]int{64, 200, 4000, 64, 4000} }

// event is something that is made, or a rule that is gone through.
type event struct {
	kind int
	word string
}

// over are more events than limits let by.
const over = 64 + 200 + 4000 + 64 + 4000 + 1

// giveUp is thrown where an error is, or where enough is written.
type giveUp struct{ err api.Errno }

// thing is what an item became; its key is its name in the whole, without its own index.
type thing struct {
	item   api.Tree
	number *big.Rat
}

// world is all that is written down.
type world struct {
	file     api.Tree
	units    []string
	dims     []api.Dim
	things   map[string]thing
	classes  map[string]string // of each instance's path
	paths    []string          // in order
	vars     []string
	varItems []api.Tree
	events   []event
	links    [][2]string // of members
	members  []string    // in order
	starts   []api.Start
}

func (w *world) put(kind int, word string) {
	w.events = append(w.events, event{kind, word})
	if len(w.events) > over {
		panic(giveUp{})
	}
}

// wanted is what Flatten must tell.
func wanted(file api.Tree) (api.Flat, api.Errno) {
	if e, _ := check.Check(file); e != api.OK {
		return api.Flat{}, e
	}
	w := &world{file: file, things: map[string]thing{}, classes: map[string]string{}}
	w.units, w.dims, _ = unit.Units(file)
	main := ""
	for _, t := range file.Kids {
		if t.Kind == api.DClass && t.N == 1 {
			main = t.Name
		}
	}
	if main == "" {
		return api.Flat{}, api.ErrName
	}
	e := w.write(main)
	if w.tooLong() {
		return api.Flat{}, api.ErrLong
	}
	if e != api.OK {
		return api.Flat{}, e
	}
	return w.flat()
}

// write goes on up to the first error, whatever is too much.
func (w *world) write(main string) (e api.Errno) {
	defer func() {
		if r := recover(); r != nil {
			e = r.(giveUp).err
		}
	}()
	w.expand("", main, nil)
	for _, path := range w.paths {
		for _, item := range w.items(path) {
			w.rule(path, item, nil)
		}
	}
	w.sets()
	w.loose()
	return api.OK
}

// tooLong tells whether what is written is more than may be, ahead of where it ends.
func (w *world) tooLong() bool {
	var n [kinds]int
	for _, ev := range w.events {
		n[ev.kind]++
		if n[ev.kind] > limits()[ev.kind] {
			return true
		}
	}
	return false
}

func (w *world) class(name string) api.Tree {
	return w.file.Kids[slices.IndexFunc(w.file.Kids, func(t api.Tree) bool { return t.Kind == api.DClass && t.Name == name })]
}

func (w *world) items(path string) []api.Tree { return w.class(w.classes[path]).Kids }

func ofKind(items []api.Tree, kinds ...int) []api.Tree {
	return slices.DeleteFunc(slices.Clone(items), func(t api.Tree) bool { return !slices.Contains(kinds, t.Kind) })
}

// suffixes are those behind an item's name.
func suffixes(item api.Tree) []string {
	if item.N == 0 {
		return []string{""}
	}
	var list []string
	for i := range item.N {
		list = append(list, fmt.Sprintf("[%d]", i+1))
	}
	return list
}

func (w *world) expand(path, class string, mods map[string]*big.Rat) {
	w.put(ofInstance, "")
	w.paths = append(w.paths, path)
	w.classes[path] = class
	for _, item := range ofKind(w.items(path), api.IParam) {
		n := mods[item.Name]
		if n == nil {
			n = w.value(path, item.Kids[1])
		}
		w.things[path+item.Name] = thing{item, n}
	}
	for _, item := range ofKind(w.items(path), api.IVar, api.IPart) {
		w.things[path+item.Name] = thing{item: item}
		said := map[string]*big.Rat{}
		for _, mod := range ofKind(item.Kids, api.IMod) {
			said[mod.Name] = w.value(path, mod.Kids[0])
		}
		for _, s := range suffixes(item) {
			if item.Kind == api.IPart {
				w.expand(path+item.Name+s+".", item.Alias, said)
				continue
			}
			w.put(ofVar, "")
			w.vars = append(w.vars, path+item.Name+s)
			w.varItems = append(w.varItems, item)
		}
	}
}

// value is a constant expression's.
func (w *world) value(path string, t api.Tree) *big.Rat {
	var of []*big.Rat
	if t.Kind != api.ERef {
		for _, kid := range t.Kids {
			of = append(of, w.value(path, kid))
		}
	}
	n := new(big.Rat)
	switch t.Kind {
	case api.ENum:
		n.SetFrac64(t.Num.N, t.Num.D)
	case api.ERef:
		n = w.things[path+t.Kids[0].Name].number
	case api.ENeg:
		n.Neg(of[0])
	case api.EAdd:
		n.Add(of[0], of[1])
	case api.ESub:
		n.Sub(of[0], of[1])
	case api.EMul:
		n.Mul(of[0], of[1])
	case api.EDiv:
		n.Mul(of[0], inverse(of[1]))
	case api.EPow:
		n.SetInt64(1)
		for range max(t.N, -t.N) {
			n.Mul(n, of[0])
		}
		if t.N < 0 {
			n = inverse(n)
		}
	}
	if most := big.NewInt(math.MaxInt64); n.Num().CmpAbs(most) > 0 || n.Denom().Cmp(most) > 0 {
		panic(giveUp{api.ErrOver})
	}
	return n
}

// room is a number that has room.
func room(n *big.Rat) api.Rat { return api.Rat{N: n.Num().Int64(), D: n.Denom().Int64()} }

func inverse(n *big.Rat) *big.Rat {
	if n.Sign() == 0 {
		panic(giveUp{api.ErrPivot})
	}
	return new(big.Rat).Inv(n)
}

// counter is a loop variable; those within stand behind those outside.
type counter struct {
	name string
	n    int
}

func indexOf(t api.Tree, loops []counter) int {
	switch t.Kind {
	case api.ENum:
		return int(t.Num.N)
	case api.EAdd:
		return indexOf(t.Kids[0], loops) + indexOf(t.Kids[1], loops)
	case api.ESub:
		return indexOf(t.Kids[0], loops) - indexOf(t.Kids[1], loops)
	}
	for _, c := range slices.Backward(loops) {
		if c.name == t.Kids[0].Name {
			return c.n
		}
	}
	panic(giveUp{api.ErrName})
}

// find tells what a reference names in the whole, and the item of it.
func (w *world) find(path string, t api.Tree, loops []counter) (string, thing) {
	at, last := path, len(t.Kids)-1
	for i, p := range t.Kids {
		th, ok := w.things[at+p.Name]
		if !ok {
			panic(giveUp{api.ErrName})
		}
		at += p.Name
		has := len(p.Kids) > 0
		n := 0
		if has {
			n = indexOf(p.Kids[0], loops)
		}
		switch {
		case has != (th.item.N > 0), has && (n < 1 || n > th.item.N):
			panic(giveUp{api.ErrIndex})
		case i == last:
			return at + suffix(has, n), th
		case th.item.Kind != api.IPart:
			panic(giveUp{api.ErrClass})
		}
		at += suffix(has, n) + "."
	}
	panic("a reference without parts")
}

func suffix(has bool, n int) string {
	if !has {
		return ""
	}
	return fmt.Sprintf("[%d]", n)
}

// variable finds one, which is no parameter and no instance.
func (w *world) variable(path string, t api.Tree, loops []counter) string {
	name, th := w.find(path, t, loops)
	if th.item.Kind != api.IVar {
		panic(giveUp{api.ErrClass})
	}
	return name
}

func (w *world) node(word string) { w.put(ofNode, word) }

func (w *world) expression(path string, t api.Tree, loops []counter) {
	switch t.Kind {
	case api.ENum:
		w.node(rat.Print(t.Num))
		return
	case api.ETime:
		w.node("time")
		return
	case api.EDer:
		w.node(w.variable(path, t.Kids[0], loops) + "'")
		return
	case api.ERef:
		if _, th := w.find(path, t, loops); th.item.Kind == api.IParam {
			w.node(rat.Print(room(th.number)) + writtenDim(w.dimension(th.item)))
			return
		}
		w.node(w.variable(path, t, loops))
		return
	}
	for _, kid := range t.Kids {
		w.expression(path, kid, loops)
	}
	switch t.Kind {
	case api.ECall:
		w.node(signs[t.N])
	case api.EPow:
		w.node(fmt.Sprint("^", t.N))
	default:
		w.node(map[int]string{api.ENeg: "neg", api.EAdd: "+", api.ESub: "-", api.EMul: "*", api.EDiv: "/"}[t.Kind])
	}
}

// dimension is what an item's DType says.
func (w *world) dimension(item api.Tree) api.Dim {
	if len(item.Kids[0].Kids) == 0 {
		return plain()
	}
	d, e := unit.Of(item.Kids[0].Kids[0], w.units, w.dims)
	if e != api.OK {
		panic(e)
	}
	return d
}

func (w *world) equation(words ...string) {
	for _, word := range words {
		w.node(word)
	}
	w.put(ofEquation, ";")
}

func (w *world) rule(path string, t api.Tree, loops []counter) {
	if !slices.Contains([]int{api.IStart, api.IConnect, api.IEquation, api.IFor}, t.Kind) {
		return
	}
	w.put(ofRule, "")
	switch t.Kind {
	case api.IStart:
		w.start(path, t)
	case api.IEquation:
		w.expression(path, t.Kids[0], loops)
		w.expression(path, t.Kids[1], loops)
		w.equation("-")
	case api.IFor:
		for i := t.N; i <= t.M; i++ {
			for _, kid := range t.Kids {
				w.rule(path, kid, append(slices.Clone(loops), counter{t.Name, i}))
			}
		}
	case api.IConnect:
		a, b := w.member(path, t.Kids[0], loops), w.member(path, t.Kids[1], loops)
		if w.classOf(a) != w.classOf(b) {
			panic(giveUp{api.ErrClass})
		}
		for _, m := range []string{a, b} {
			if !slices.Contains(w.members, m) {
				w.members = append(w.members, m)
			}
		}
		w.links = append(w.links, [2]string{a, b})
	}
}

func (w *world) start(path string, t api.Tree) {
	ref, k := t.Kids[0], 0
	if ref.Kind == api.EDer {
		ref, k = ref.Kids[0], 1
	}
	v := slices.Index(w.vars, w.variable(path, ref, nil))
	s := api.Start{Key: api.Key{V: v, K: k}}
	for i, end := range []*api.Rat{&s.Lo, &s.Hi} {
		*end = room(w.value(path, t.Kids[i+1]))
	}
	w.starts = append(w.starts, s)
}

// member is a connector's path, behind its side.
func (w *world) member(path string, t api.Tree, loops []counter) string {
	name, th := w.find(path, t, loops)
	if len(t.Kids) > 2 || th.item.Kind != api.IPart || w.class(w.classes[name+"."]).N != 2 {
		panic(giveUp{api.ErrClass})
	}
	if len(t.Kids) == 2 {
		if around, _ := w.find(path, tree(api.ERef, t.Kids[0]), loops); w.class(w.classes[around+"."]).N == 2 {
			panic(giveUp{api.ErrClass})
		}
	}
	return fmt.Sprint(len(t.Kids), name, ".")
}

func (w *world) classOf(member string) string { return w.classes[member[1:]] }

// sets are looked for from each member that is in none yet: what is linked to one that is found is found, too, until nothing is added.
func (w *world) sets() {
	var done []string
	for _, m := range w.members {
		if slices.Contains(done, m) {
			continue
		}
		set := []string{m}
		for n := 0; n < len(set); {
			n = len(set)
			for _, l := range w.links {
				if in := slices.Contains(set, l[0]); in != slices.Contains(set, l[1]) {
					set = append(set, l[:]...)
					slices.Sort(set)
					set = slices.Compact(set)
				}
			}
		}
		done = append(done, set...)
		slices.SortFunc(set, func(a, b string) int { return slices.Index(w.members, a) - slices.Index(w.members, b) })
		w.set(set)
	}
}

func (w *world) set(set []string) {
	for _, v := range w.class(w.classOf(set[0])).Kids {
		if !v.Flag {
			for _, m := range set[1:] {
				w.equation(set[0][1:]+v.Name, m[1:]+v.Name, "-")
			}
			continue
		}
		var words []string
		for i, m := range set {
			words = append(words, m[1:]+v.Name)
			if m[0] == '1' {
				words = append(words, "neg")
			}
			if i > 0 {
				words = append(words, "+")
			}
		}
		w.equation(words...)
	}
}

// loose are connectors to which nothing comes from outside.
func (w *world) loose() {
	for _, path := range w.paths {
		c := w.class(w.classes[path])
		if c.N != 2 || strings.Count(path, ".") < 2 || slices.Contains(w.members, "2"+path) {
			continue
		}
		for _, v := range c.Kids {
			if v.Flag {
				w.equation(path + v.Name)
			}
		}
	}
}

// flat reads what was written, and asks for the dimensions.
func (w *world) flat() (api.Flat, api.Errno) {
	var words []string
	for _, ev := range w.events {
		words = append(words, ev.word)
	}
	f := read(strings.Join(w.vars, " ") + "|" + strings.Join(words, " ") + "|")
	f.Starts = w.starts
	var dims []api.Dim
	var given []bool
	for _, item := range w.varItems {
		dims = append(dims, w.dimension(item))
		given = append(given, len(item.Kids[0].Kids) > 0)
	}
	second := plain()
	if at := slices.Index(w.units, "s"); at >= 0 {
		second = w.dims[at]
	}
	told, e := unit.Infer(f.Nodes, f.Eqs, dims, given, second)
	if e != api.OK {
		return api.Flat{}, e
	}
	for i, d := range told {
		f.Vars[i].Dim = d
	}
	return f, api.OK
}
