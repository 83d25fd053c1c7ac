package build_test

import (
	"slices"
	"strconv"
	"strings"
	"testing"

	"quern/api"
	"quern/build"
	"quern/lex"
	"quern/parse"
	"quern/ssa"
	"quern/types"
)

// read makes the tree of a text, with its types.
func read(t testing.TB, text string) api.Tree {
	t.Helper()
	typed, at, err := types.Types(parsed(t, text))
	if err != api.OK {
		t.Fatalf("%.2000s: %v at %d", text, err, at)
	}
	return typed
}

// parsed makes the tree of a text, without types.
func parsed(t testing.TB, text string) api.Tree {
	t.Helper()
	tokens, _, err := lex.Tokens([]byte(text))
	x, _, at, no := parse.Parse(tokens, len(text))
	if err != api.OK || no != api.OK {
		t.Fatalf("%.2000s: %v, %v at %d", text, err, no, at)
	}
	return x
}

func copyOf(t api.Tree) api.Tree {
	c := api.Tree{Nodes: slices.Clone(t.Nodes), Funcs: slices.Clone(t.Funcs)}
	for i := range c.Nodes {
		c.Nodes[i].Kids = slices.Clone(c.Nodes[i].Kids)
	}
	return c
}

// built is the SSA of a tree that must be built; P1112 is asked of it whenever something is built.
func built(t testing.TB, x api.Tree) api.SSA {
	t.Helper()
	s, place, err := build.Build(x)
	if err != api.OK || place != 0 {
		t.Fatalf("%v at %d", err, place)
	}
	if err := ssa.Check(s); err != api.OK {
		t.Fatalf("no SSA: %v\n%s", err, toldProgram(s))
	}
	for _, f := range s.Funcs {
		for number, v := range f.Values {
			if v.Op == api.InsPhi && trivial(number, v) {
				t.Fatalf("v%d is trivial\n%s", number, toldProgram(s))
			}
		}
	}
	return s
}

func trivial(number int, v api.Value) bool {
	others := slices.DeleteFunc(slices.Clone(v.Args), func(a int) bool { return a == number })
	slices.Sort(others)
	return len(slices.Compact(others)) < 2
}

var opNames = []string{"", "Const", "Add", "Sub", "Mul", "Div", "Rem", "And", "Or", "Xor", "Bic", "Shl", "Shr", "Eq", "Ne", "Lt", "Le", "Neg", "Inv", "Not",
	"Len", "Load", "Store", "Alloc", "Input", "Call", "PrintInt", "PrintBool", "TrapZero", "TrapNeg", "TrapBound", "Move", "Phi", "Param"}

var typeNames = []string{"", " int", " bool", " []int"}

// told is a function's blocks in words, as the chapter writes them: of each its Preds, its values, the Phis first, and its end.
func told(f api.SFunc) string {
	var blocks []string
	for i, b := range f.Blocks {
		text := strconv.Itoa(i) + ":"
		if len(b.Preds) > 0 {
			text = strconv.Itoa(i) + " of" + numbers(" ", b.Preds) + ":"
		}
		for _, v := range b.Phis {
			text += toldValue(f, v) + ","
		}
		if len(b.Phis) > 0 {
			text += " |"
		}
		for _, v := range b.Body {
			text += toldValue(f, v) + ","
		}
		blocks = append(blocks, text+toldTerm(b.Term))
	}
	return strings.Join(blocks, "\n")
}

func numbers(ahead string, list []int) string {
	text := ""
	for _, n := range list {
		text += ahead + strconv.Itoa(n)
	}
	return text
}

func toldValue(f api.SFunc, number int) string {
	v := f.Values[number]
	text := " v" + strconv.Itoa(number) + " " + opNames[v.Op]
	if v.Op == api.InsConst || v.Imm != 0 {
		text += " " + strconv.Itoa(v.Imm)
	}
	return text + numbers(" v", v.Args) + typeNames[v.Type]
}

func toldTerm(t api.Term) string {
	kind := []string{"", " jump", " branch", " return", " panic"}[t.Kind]
	if t.Value != -1 {
		kind += " v" + strconv.Itoa(t.Value)
	}
	return kind + numbers(" ", t.To)
}

// toldProgram is all of a program in words.
func toldProgram(s api.SSA) string {
	text := "Main " + strconv.Itoa(s.Main) + "\n"
	for _, f := range s.Funcs {
		text += f.Name + "(" + numbers(" v", f.Params) + " )" + typeNames[f.Result] + " of " + strconv.Itoa(len(f.Values)) + "\n"
		for _, p := range f.Params {
			text += toldValue(f, p) + "\n"
		}
		text += told(f) + "\n"
	}
	return text
}

// row is the text of a function's body, its blocks and its count.
type row struct {
	body  string
	want  string
	count int
}

// helpers are functions that the bodies of rows may call.
const helpers = ` func f(a int, b bool) int { return a; } func g(a []int) []int { return a; } func h() bool { return true; } func nothing(a int) { }`

// holdRows holds the blocks of main and its count.
func holdRows(t *testing.T, rows []row) {
	t.Helper()
	for _, r := range rows {
		t.Run(r.body, func(t *testing.T) { r.hold(t, "func main() { "+r.body+" }"+helpers) })
	}
}

// holdFirst holds functions other than main.
func holdFirst(t *testing.T, rows []row) {
	t.Helper()
	for _, r := range rows {
		t.Run(r.body, func(t *testing.T) { r.hold(t, r.body+" func main() { }") })
	}
}

// hold holds the first function of a text. Filled up to its limit the count is good, by one more it is not.
func (r row) hold(t *testing.T, text string) {
	t.Helper()
	t.Parallel()
	x := read(t, text)
	want := strings.Join(strings.Fields(r.want), " ")
	if got := strings.Join(strings.Fields(told(built(t, x).Funcs[0])), " "); got != want {
		t.Errorf("%s\nwant\n%s", got, want)
	}
	holdCount(t, x, r.count)
}

// holdCount holds the count of the first function.
func holdCount(t *testing.T, x api.Tree, count int) {
	t.Helper()
	if s, place, err := build.Build(padded(x, api.MaxValues-count)); err != api.OK || place != 0 || len(s.Funcs) != len(x.Funcs) {
		t.Errorf("%v at %d, where the count should be %d and so at its limit", err, place, count)
	}
	if s, place, err := build.Build(padded(x, api.MaxValues-count+1)); err != api.ErrBuildValues || place != 0 || s.Funcs != nil || s.Main != 0 {
		t.Errorf("%v at %d, where the count should be %d and so one past its limit", err, place, count)
	}
}

// padded is the tree with a statement ahead of those of its first function which adds that much to its count: print(---1), with many signs.
func padded(x api.Tree, more int) api.Tree {
	at := len(x.Nodes[x.Funcs[0]].Kids) - 1 // behind the Params
	shift := func(list []int) []int {
		list = slices.Clone(list)
		for i, n := range list {
			if n >= at {
				list[i] = n + more
			}
		}
		return list
	}
	p := api.Tree{Nodes: make([]api.Node, 0, len(x.Nodes)+more), Funcs: shift(x.Funcs)}
	p.Nodes = append(append(p.Nodes, x.Nodes[:at]...), api.Node{Kind: api.NodeNum, Type: api.TypeInt, Value: 1})
	kids := make([]int, more-2) // one list for all of them: there are many
	for i := range kids {
		kids[i] = len(p.Nodes) - 1
		p.Nodes = append(p.Nodes, api.Node{Kind: api.NodeUnary, Op: api.OpNeg, Type: api.TypeInt, Kids: kids[i : i+1 : i+1]})
	}
	p.Nodes = append(p.Nodes, api.Node{Kind: api.NodePrint, Kids: []int{len(p.Nodes) - 1}})
	for _, n := range x.Nodes[at:] {
		n.Kids = shift(n.Kids)
		p.Nodes = append(p.Nodes, n)
	}
	body := &p.Nodes[p.Nodes[p.Funcs[0]].Kids[at]]
	body.Kids = append([]int{at + more - 1}, body.Kids...)
	return p
}
