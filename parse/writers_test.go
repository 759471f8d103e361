package parse_test

import (
	"fmt"
	"math/big"
	"strings"

	"orrery/api"
)

// written is the text that Print must make of a file's tree, put together piece by piece.
func written(file api.Tree) string {
	text := ""
	for _, t := range file.Kids {
		if t.Kind == api.DUnit {
			text += "unit " + t.Name + writtenDim(" = ", t) + ";\n"
			continue
		}
		text += []string{"model ", "connector "}[t.N-1] + t.Name + "\n" + writtenItems(t.Kids) + "end;\n"
	}
	return strings.TrimSuffix(text, "\n")
}

func writtenItems(items []api.Tree) string {
	text := ""
	for _, t := range items {
		text += writtenItem(t) + ";\n"
	}
	return text
}

func writtenItem(t api.Tree) string {
	k := t.Kids
	switch t.Kind {
	case api.IParam:
		return fmt.Sprintf("param %s%s = %s", t.Name, writtenDim(": ", k[0]), writtenExpr(k[1]))
	case api.IVar:
		word := map[bool]string{false: "var", true: "flow"}[t.Flag]
		return fmt.Sprintf("%s %s%s%s", word, t.Name, writtenSize(t.N), writtenDim(": ", k[0]))
	case api.IPart:
		var mods []string
		for _, m := range k {
			mods = append(mods, m.Name+" = "+writtenExpr(m.Kids[0]))
		}
		text := fmt.Sprintf("part %s%s: %s", t.Name, writtenSize(t.N), t.Alias)
		if mods == nil {
			return text
		}
		return text + "(" + strings.Join(mods, ", ") + ")"
	case api.IStart:
		if equal(k[1], k[2]) {
			return fmt.Sprintf("start %s = %s", writtenExpr(k[0]), writtenExpr(k[1]))
		}
		return fmt.Sprintf("start %s in [%s, %s]", writtenExpr(k[0]), writtenExpr(k[1]), writtenExpr(k[2]))
	case api.IConnect:
		return fmt.Sprintf("connect(%s, %s)", writtenExpr(k[0]), writtenExpr(k[1]))
	case api.IEquation:
		return fmt.Sprintf("%s = %s", writtenExpr(k[0]), writtenExpr(k[1]))
	}
	return fmt.Sprintf("for %s in %d..%d do\n%send", t.Name, t.N, t.M, writtenItems(k))
}

func writtenSize(n int) string {
	if n == 0 {
		return ""
	}
	return fmt.Sprintf("[%d]", n)
}

func writtenNumber(n api.Rat) string {
	text := big.NewRat(n.N, n.D).FloatString(18)
	return strings.TrimSuffix(strings.TrimRight(text, "0"), ".")
}

var (
	functionWords = map[int]string{9: "sqrt", 10: "exp", 11: "log", 12: "sin", 13: "cos", 14: "atan"}
	operatorSigns = map[int]string{api.EAdd: "+", api.ESub: "-", api.EMul: "*", api.EDiv: "/", api.UMul: "*", api.UDiv: "/"}
)

func writtenExpr(t api.Tree) string {
	var inner []string
	for _, kid := range t.Kids {
		text := writtenExpr(kid)
		switch kid.Kind {
		case api.ENeg, api.EAdd, api.ESub, api.EMul, api.EDiv, api.EPow:
			if t.Kind >= api.ENeg {
				text = "(" + text + ")"
			}
		}
		inner = append(inner, text)
	}
	switch t.Kind {
	case api.ENum:
		return writtenNumber(t.Num)
	case api.ERef:
		return strings.Join(inner, ".")
	case api.EPart:
		if len(inner) > 0 {
			return t.Name + "[" + inner[0] + "]"
		}
		return t.Name
	case api.EDer:
		return "der(" + inner[0] + ")"
	case api.ETime:
		return "time"
	case api.ECall:
		return functionWords[t.N] + "(" + inner[0] + ")"
	case api.ENeg:
		return "-" + inner[0]
	case api.EPow:
		return fmt.Sprintf("%s^%d", inner[0], t.N)
	}
	return inner[0] + " " + operatorSigns[t.Kind] + " " + inner[1]
}

func writtenDim(ahead string, t api.Tree) string {
	if len(t.Kids) == 0 {
		return ""
	}
	return ahead + writtenUnit(t.Kids[0])
}

func writtenUnit(t api.Tree) string {
	var inner []string
	for _, kid := range t.Kids {
		text := writtenUnit(kid)
		if kid.Kind == api.UMul || kid.Kind == api.UDiv || kid.Kind == api.UPow {
			text = "(" + text + ")"
		}
		inner = append(inner, text)
	}
	switch t.Kind {
	case api.UOne:
		return "1"
	case api.UName:
		return t.Name
	case api.UPow:
		if t.Num.D == 1 {
			return fmt.Sprintf("%s^%d", inner[0], t.Num.N)
		}
		return fmt.Sprintf("%s^(%d / %d)", inner[0], t.Num.N, t.Num.D)
	}
	return inner[0] + " " + operatorSigns[t.Kind] + " " + inner[1]
}

// loose writes a tree in one of its many ways: with as few parentheses as its operators need, and some more by chance, blanks and comments by chance, numbers in other forms.
type loose struct {
	drawn
	tokens []string
}

func (l *loose) put(tokens ...string) { l.tokens = append(l.tokens, tokens...) }

// text puts blanks or comments between tokens; none, by chance, where they are told apart without.
func (l *loose) text() string {
	gaps := []string{" ", "\n", "\t", "  \r", " // model ( \n", "//\n", " //;\n\n"}
	text := ""
	for i, token := range l.tokens {
		apart := i > 0 && strings.ContainsAny(token[:1], "()[],;:=+-*^") && l.Intn(2) == 0
		if i > 0 && !apart {
			gap := gaps[l.Intn(len(gaps))]
			if strings.HasSuffix(text, "/") {
				gap = " " + gap
			}
			text += gap
		}
		text += token
	}
	return text
}

func (l *loose) number(n api.Rat) string {
	text := writtenNumber(n)
	switch l.Intn(8) {
	case 0:
		return "00" + text
	case 1:
		return text + "e0"
	case 2:
		if strings.Contains(text, ".") {
			return text + "00"
		}
		return text + ".000E+00"
	case 3:
		if !strings.Contains(text, ".") { // the last digit behind the point
			return "0" + text[:len(text)-1] + "." + text[len(text)-1:] + "e1"
		}
	}
	return text
}

func (l *loose) whole(n int) string { return l.number(api.Rat{N: int64(n), D: 1}) }

func (l *loose) signed(n int) {
	if n < 0 || n == 0 && l.Intn(2) == 0 {
		l.put("-")
		n = -n
	}
	l.put(l.whole(n))
}

func (l *loose) file(file api.Tree) {
	for _, t := range file.Kids {
		if t.Kind == api.DUnit {
			l.put("unit", t.Name)
			l.dimBehind("=", t)
		} else {
			l.put([]string{"model", "connector"}[t.N-1], t.Name)
			l.items(t.Kids)
		}
		l.put(";")
	}
}

func (l *loose) items(items []api.Tree) {
	for _, t := range items {
		l.item(t)
		l.put(";")
	}
	l.put("end")
}

func (l *loose) item(t api.Tree) {
	k := t.Kids
	switch t.Kind {
	case api.IParam:
		l.put("param", t.Name)
		l.dimBehind(":", k[0])
		l.put("=")
		l.expr(k[1], 0)
	case api.IVar:
		l.put(map[bool]string{false: "var", true: "flow"}[t.Flag], t.Name)
		l.size(t.N)
		l.dimBehind(":", k[0])
	case api.IPart:
		l.put("part", t.Name)
		l.size(t.N)
		l.put(":", t.Alias)
		sign := "("
		for _, m := range k {
			l.put(sign, m.Name, "=")
			l.expr(m.Kids[0], 0)
			sign = ","
		}
		if len(k) > 0 {
			l.put(")")
		}
	case api.IStart:
		l.start(k)
	case api.IConnect:
		l.put("connect", "(")
		l.expr(k[0], 9)
		l.put(",")
		l.expr(k[1], 9)
		l.put(")")
	case api.IEquation:
		l.expr(k[0], 0)
		l.put("=")
		l.expr(k[1], 0)
	case api.IFor:
		l.put("for", t.Name, "in", l.whole(t.N), "..", l.whole(t.M), "do")
		l.items(k)
	}
}

func (l *loose) size(n int) {
	if n != 0 || l.Intn(2) == 0 {
		l.put("[", l.whole(n), "]")
	}
}

func (l *loose) start(k []api.Tree) {
	l.put("start")
	l.expr(k[0], 9)
	if equal(k[1], k[2]) && l.Intn(2) == 0 {
		l.put("=")
		l.expr(k[1], 0)
		return
	}
	l.put("in", "[")
	l.expr(k[1], 0)
	l.put(",")
	l.expr(k[2], 0)
	l.put("]")
}

// expr writes an expression where the grammar's rule of a level stands: 0 expr, 1 mul, 2 neg, 3 prime; 9 where no parentheses may be.
func (l *loose) expr(t api.Tree, level int) {
	own := 3
	switch t.Kind {
	case api.EAdd, api.ESub:
		own = 0
	case api.EMul, api.EDiv:
		own = 1
	case api.ENeg, api.EPow:
		own = 2
	}
	if level != 9 && (own < level || l.Intn(6) == 0) {
		l.put("(")
		l.expr(t, 0)
		l.put(")")
		return
	}
	k := t.Kids
	switch t.Kind {
	case api.ENum:
		l.put(l.number(t.Num))
	case api.ERef:
		for i, e := range k {
			if i > 0 {
				l.put(".")
			}
			l.expr(e, 9)
		}
	case api.EPart:
		l.put(t.Name)
		if len(k) > 0 {
			l.put("[")
			l.index(k[0])
			l.put("]")
		}
	case api.EDer:
		l.put("der", "(")
		l.expr(k[0], 9)
		l.put(")")
	case api.ETime:
		l.put("time")
	case api.ECall:
		l.put(functionWords[t.N], "(")
		l.expr(k[0], 0)
		l.put(")")
	case api.ENeg:
		l.put("-")
		l.expr(k[0], 2)
	case api.EPow:
		l.expr(k[0], 3)
		l.put("^")
		l.signed(t.N)
	default:
		l.expr(k[0], own)
		l.put(operatorSigns[t.Kind])
		l.expr(k[1], own+1)
	}
}

func (l *loose) index(t api.Tree) {
	switch t.Kind {
	case api.ENum:
		l.put(l.whole(int(t.Num.N)))
	case api.ERef:
		l.put(t.Kids[0].Name)
	default:
		l.index(t.Kids[0])
		l.put(operatorSigns[t.Kind])
		l.index(t.Kids[1])
	}
}

func (l *loose) dimBehind(sign string, t api.Tree) {
	if len(t.Kids) > 0 {
		l.put(sign)
		l.dim(t.Kids[0], 0)
	}
}

// dim writes a dimension where dim (0), up (1) or what has a power (2) stands.
func (l *loose) dim(t api.Tree, level int) {
	own := map[int]int{api.UMul: 0, api.UDiv: 0, api.UPow: 1, api.UOne: 2, api.UName: 2}[t.Kind]
	if own < level || l.Intn(6) == 0 {
		l.put("(")
		l.dim(t, 0)
		l.put(")")
		return
	}
	switch t.Kind {
	case api.UOne:
		l.put(l.whole(1))
	case api.UName:
		l.put(t.Name)
	case api.UPow:
		l.dim(t.Kids[0], 2)
		l.put("^")
		l.dimPower(t.Num)
	default:
		l.dim(t.Kids[0], 0)
		l.put(operatorSigns[t.Kind])
		l.dim(t.Kids[1], 1)
	}
}

// dimPower may have something in common above and below.
func (l *loose) dimPower(p api.Rat) {
	if p.D == 1 && l.Intn(2) == 0 {
		l.signed(int(p.N))
		return
	}
	times := int64(1 + l.Intn(int(64/max(p.N, -p.N, p.D))))
	l.put("(")
	l.signed(int(p.N * times))
	l.put("/", l.whole(int(p.D*times)), ")")
}
