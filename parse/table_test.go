package parse_test

import (
	"fmt"
	"regexp"
	"strconv"
	"strings"

	"orrery/api"
)

// The chapter's table: a kind, its fields, and a pattern of its Kids (x an expression, u a dimension, i an item, r a rule, n an index; others by their kinds).
const tableText = `
DFile     |                    | (DUnit |DClass )*
DUnit     | Name               | (u )?
DClass    | Name N:1:2         | (i )*
IParam    | Name               | DType x
IVar      | Name N:0:1000000 Flag | DType
IPart     | Name N:0:1000000 Alias | (IMod )*
IMod      | Name               | x
IStart    |                    | (ERef |EDer )x x
IConnect  |                    | ERef ERef
IEquation |                    | x x
IFor      | Name N:0:1000000 M:0:1000000 | (IConnect |IEquation |IFor )*
DType     |                    | (u )?
ENum      | Num                |
ERef      |                    | (EPart )+
EPart     | Name               | (n )?
EDer      |                    | ERef
ETime     |                    |
ECall     | N:9:14             | x
ENeg      |                    | x
EAdd      |                    | x x
ESub      |                    | x x
EMul      |                    | x x
EDiv      |                    | x x
EPow      | N:-64:64           | x
UOne      |                    |
UName     | Name               |
UMul      |                    | u u
UDiv      |                    | u u
UPow      | Power              | u
`

var kindNames = map[int]string{1: "ENum", 2: "ERef", 3: "EPart", 4: "EDer", 5: "ETime", 6: "ECall", 7: "ENeg", 8: "EAdd", 9: "ESub", 10: "EMul", 11: "EDiv", 12: "EPow",
	20: "UOne", 21: "UName", 22: "UMul", 23: "UDiv", 24: "UPow",
	30: "DFile", 31: "DUnit", 32: "DClass", 33: "IParam", 34: "IVar", 35: "IPart", 36: "IMod", 37: "IStart", 38: "IConnect", 39: "IEquation", 40: "IFor", 41: "DType"}

var groups = strings.NewReplacer("x ", "(ENum |ERef |EDer |ETime |ECall |ENeg |EAdd |ESub |EMul |EDiv |EPow )", "u ", "(UOne |UName |UMul |UDiv |UPow )", "i ", "(IParam |IVar |IPart |IStart |IConnect |IEquation |IFor )")

type tableRow struct {
	fields []string
	kids   *regexp.Regexp
}

type table map[string]tableRow

func readTable() table {
	rows := table{}
	for _, line := range strings.Split(strings.TrimSpace(tableText), "\n") {
		kind, rest, _ := strings.Cut(line, "|")
		fields, kids, _ := strings.Cut(rest, "|")
		pattern := groups.Replace(strings.TrimSpace(kids) + " ")
		pattern = strings.NewReplacer(")? ", ")?", ")* ", ")*", ")+ ", ")+").Replace(pattern)
		if strings.TrimSpace(kids) == "" {
			pattern = ""
		}
		rows[strings.TrimSpace(kind)] = tableRow{strings.Fields(fields), regexp.MustCompile("^(" + pattern + ")$")}
	}
	return rows
}

// files tells whether a tree is a file's, by the table.
func (rows table) files(t api.Tree) bool { return t.Kind == api.DFile && rows.right(t) }

func (rows table) right(t api.Tree) bool {
	row, ok := rows[kindNames[t.Kind]]
	if !ok || !fieldsFit(row.fields, t) {
		return false
	}
	kinds := ""
	for _, kid := range t.Kids {
		if !rows.right(kid) {
			return false
		}
		if t.Kind == api.EPart && indexPattern.MatchString(shown(kid)) {
			kinds += "n "
			continue
		}
		kinds += kindNames[kid.Kind] + " "
	}
	return row.kids.MatchString(kinds)
}

// A loop variable, a number up to 10^6, or a sum or a difference of the two, as shown.
var indexPattern = regexp.MustCompile(`^(\(ERef\(EPart\)\)|N|\((EAdd|ESub)\(ERef\(EPart\)\)N\))$`)

// shown are a tree's kinds with their Kids; N is a number that may tell a place.
func shown(t api.Tree) string {
	if t.Kind == api.ENum && t.Num.D == 1 && t.Num.N <= 1000000 {
		return "N"
	}
	text := "(" + kindNames[t.Kind]
	for _, kid := range t.Kids {
		text += shown(kid)
	}
	return text + ")"
}

var namePattern = regexp.MustCompile(`^[A-Za-z][A-Za-z0-9_]{0,23}$`)

const words = " atan connect connector cos der do end exp flow for in log model param part sin sqrt start time unit var "

func isName(s string) bool {
	return namePattern.MatchString(s) && !strings.Contains(words, " "+s+" ")
}

func between(n int, rule []string) bool {
	least, _ := strconv.Atoi(rule[1])
	most, _ := strconv.Atoi(rule[2])
	return least <= n && n <= most
}

// mayBe: chapter 11's words.
func mayBe(a api.Rat) bool {
	if a.D < 1 || a.N < -(1<<63-1) {
		return false
	}
	n, d := max(a.N, -a.N), a.D
	for n != 0 {
		n, d = d%n, n
	}
	return d == 1
}

func fieldsFit(fields []string, t api.Tree) bool {
	for _, field := range fields {
		rule := strings.Split(field, ":")
		fits := true
		switch rule[0] {
		case "Name":
			fits, t.Name = isName(t.Name), ""
		case "Alias":
			fits, t.Alias = isName(t.Alias), ""
		case "N":
			fits, t.N = between(t.N, rule), 0
		case "M":
			fits, t.M = between(t.M, rule), 0
		case "Flag":
			t.Flag = false
		case "Num":
			fits = mayBe(t.Num) && t.Num.N >= 0 && amountRight("number", t.Num)
			t.Num = api.Rat{}
		case "Power":
			fits = mayBe(t.Num) && t.Num.N >= -64 && t.Num.N <= 64 && t.Num.D <= 64
			t.Num = api.Rat{}
		}
		if !fits {
			return false
		}
	}
	t.Kind, t.Kids = 0, nil
	return fmt.Sprint(t) == fmt.Sprint(api.Tree{})
}

// judged is what Right must tell.
func (rows table) judged(t api.Tree) api.Errno {
	switch {
	case levels(t) > api.MaxDepth:
		return api.ErrDeep
	case !rows.files(t) || nodes(t) > api.MaxTokens:
		return api.ErrTree
	}
	return api.OK
}
