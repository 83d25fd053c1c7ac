package tree_test

import (
	"bytes"
	"math"
	"math/rand"
	"reflect"
	"runtime/debug"
	"slices"
	"strconv"
	"strings"
	"testing"

	"quern/api"
	"quern/tree"
)

func expectText(t *testing.T, x api.Tree, want string) {
	t.Helper()
	if got := textOf(x); got != want {
		t.Errorf("%.300q, want %.300q", got, want)
	}
}

// expectStatement prints a statement as the one of main; the text's lines have the tabs of a block that is open.
func expectStatement(t *testing.T, s *shape, want string) {
	t.Helper()
	expectText(t, mainOf(s), "func main() {\n\t"+want+"\n}\n")
}

func expectValue(t *testing.T, v *shape, want string) {
	t.Helper()
	expectStatement(t, show(v), "print("+want+");")
}

func TestP304Functions(t *testing.T) {
	expectText(t, api.Tree{}, "")
	expectText(t, sample(), "func main() {\n\tx = -(1 + 2) * 3;\n}\n")
	expectText(t, flat(function("f", block())), "func f() {\n}\n")
	expectText(t, flat(function("f", block()).decl(api.TypeInt)), "func f() int {\n}\n")
	expectText(t, flat(function("f", block()).decl(api.TypeBool)), "func f() bool {\n}\n")
	expectText(t, flat(function("f", block()).decl(api.TypeInts)), "func f() []int {\n}\n")
	expectText(t, flat(function("f", param("a", api.TypeInt), block())), "func f(a int) {\n}\n")
	expectText(t, flat(function("f", param("a", api.TypeBool), param("b", api.TypeInts), param("a", api.TypeInt), block()).decl(api.TypeInt)),
		"func f(a bool, b []int, a int) int {\n}\n")
	expectText(t, flat(function("a", block()), function("b", block(of(api.NodeBreak))), function("a", block())),
		"func a() {\n}\nfunc b() {\n\tbreak;\n}\nfunc a() {\n}\n")
}

func TestP304Statements(t *testing.T) {
	one, two := num(1), name("y")
	expectStatement(t, variable("x", api.TypeInt), "var x int;")
	expectStatement(t, variable("x", api.TypeBool), "var x bool;")
	expectStatement(t, variable("x", api.TypeInts), "var x []int;")
	expectStatement(t, variable("x", api.TypeInt, one), "var x int = 1;")
	expectStatement(t, variable("x", api.TypeInts, of(api.NodeNil)), "var x []int = nil;")
	expectStatement(t, set("x", two), "x = y;")
	expectStatement(t, setAt("x", one, two), "x[1] = y;")
	expectStatement(t, of(api.NodeCallStmt, call("f")), "f();")
	expectStatement(t, of(api.NodeCallStmt, call("f", one, two, one)), "f(1, y, 1);")
	expectStatement(t, show(one), "print(1);")
	expectStatement(t, of(api.NodePanic, two), "panic(y);")
	expectStatement(t, of(api.NodeReturn), "return;")
	expectStatement(t, of(api.NodeReturn, two), "return y;")
	expectStatement(t, of(api.NodeBreak), "break;")
	expectStatement(t, of(api.NodeContinue), "continue;")
}

func TestP304Blocks(t *testing.T) {
	yes, stop := of(api.NodeTrue), of(api.NodeBreak)
	expectStatement(t, block(), "{\n\t}")
	expectStatement(t, block(stop, block(stop)), "{\n\t\tbreak;\n\t\t{\n\t\t\tbreak;\n\t\t}\n\t}")
	expectStatement(t, of(api.NodeIf, yes, block()), "if true {\n\t}")
	expectStatement(t, of(api.NodeIf, yes, block(stop)), "if true {\n\t\tbreak;\n\t}")
	expectStatement(t, of(api.NodeIf, yes, block(), block()), "if true {\n\t} else {\n\t}")
	expectStatement(t, of(api.NodeIf, yes, block(stop), block(stop, stop)), "if true {\n\t\tbreak;\n\t} else {\n\t\tbreak;\n\t\tbreak;\n\t}")
	expectStatement(t, of(api.NodeIf, yes, block(), of(api.NodeIf, name("x"), block(stop))), "if true {\n\t} else if x {\n\t\tbreak;\n\t}")
	expectStatement(t, of(api.NodeIf, yes, block(), of(api.NodeIf, name("x"), block(), block(stop))), "if true {\n\t} else if x {\n\t} else {\n\t\tbreak;\n\t}")
	expectStatement(t, of(api.NodeFor, block()), "for {\n\t}")
	expectStatement(t, of(api.NodeFor, block(stop)), "for {\n\t\tbreak;\n\t}")
	expectStatement(t, of(api.NodeFor, name("x"), block(of(api.NodeFor, block()))), "for x {\n\t\tfor {\n\t\t}\n\t}")
	expectText(t, mainOf(block(), stop, block(stop), stop), "func main() {\n\t{\n\t}\n\tbreak;\n\t{\n\t\tbreak;\n\t}\n\tbreak;\n}\n")
}

func TestP304Expressions(t *testing.T) {
	a, b := name("a"), name("b")
	for _, n := range []int{0, 1, 9, 10, 1234567890, math.MaxInt} {
		expectValue(t, num(n), strconv.Itoa(n))
	}
	expectValue(t, of(api.NodeTrue), "true")
	expectValue(t, of(api.NodeFalse), "false")
	expectValue(t, of(api.NodeNil), "nil")
	expectValue(t, of(api.NodeInput), "input()")
	expectValue(t, name("a_B9"), "a_B9")
	expectValue(t, call("f"), "f()")
	expectValue(t, call("f", a), "f(a)")
	expectValue(t, call("f", a, call("g", b), num(2)), "f(a, g(b), 2)")
	expectValue(t, of(api.NodeLen, a), "len(a)")
	expectValue(t, of(api.NodeMake, b), "make([]int, b)")
	expectValue(t, index(a, b), "a[b]")
	expectValue(t, index(index(a, b), num(1)), "a[b][1]")
	for op, sign := range unarySigns {
		expectValue(t, unary(op, a), sign+"a")
	}
	for op, sign := range binarySigns {
		expectValue(t, binary(op, a, b), "a "+sign+" b")
	}
}

var (
	unarySigns  = map[int]string{api.OpNeg: "-", api.OpNot: "!", api.OpInv: "^"}
	binarySigns = map[int]string{
		api.OpAdd: "+", api.OpSub: "-", api.OpMul: "*", api.OpDiv: "/", api.OpRem: "%", api.OpAnd: "&", api.OpOr: "|",
		api.OpXor: "^", api.OpBic: "&^", api.OpShl: "<<", api.OpShr: ">>", api.OpEq: "==", api.OpNe: "!=", api.OpLt: "<",
		api.OpLe: "<=", api.OpGt: ">", api.OpGe: ">=", api.OpBoth: "&&", api.OpEither: "||",
	}
	// levels are P305's, from 1 on.
	levels = []string{1: "||", 2: "&&", 3: "== != < <= > >=", 4: "+ - | ^", 5: "* / % & &^ << >>"}
)

func levelOf(sign string) int {
	for level, signs := range levels {
		if slices.Contains(strings.Fields(signs), sign) {
			return level
		}
	}
	return 0
}

func wrapIf(wrap bool, text string) string {
	if wrap {
		return "(" + text + ")"
	}
	return text
}

// TestP305Pairs has every operator within every other one, on each side.
func TestP305Pairs(t *testing.T) {
	a, b, c := name("a"), name("b"), name("c")
	for outer, outerSign := range binarySigns {
		o := levelOf(outerSign)
		for inner, innerSign := range binarySigns {
			i := levelOf(innerSign)
			text := "a " + innerSign + " b"
			expectValue(t, binary(outer, binary(inner, a, b), c), wrapIf(i < o || i == 3 && o == 3, text)+" "+outerSign+" c")
			expectValue(t, binary(outer, c, binary(inner, a, b)), "c "+outerSign+" "+wrapIf(i <= o, text))
		}
		for inner, innerSign := range unarySigns {
			expectValue(t, binary(outer, unary(inner, a), unary(inner, b)), innerSign+"a "+outerSign+" "+innerSign+"b")
			expectValue(t, unary(inner, binary(outer, a, b)), innerSign+"(a "+outerSign+" b)")
		}
		expectValue(t, index(binary(outer, a, b), binary(outer, b, c)), "(a "+outerSign+" b)[b "+outerSign+" c]")
		expectValue(t, binary(outer, index(a, b), call("f", c)), "a[b] "+outerSign+" f(c)")
		expectValue(t, call("f", binary(outer, a, b), c), "f(a "+outerSign+" b, c)")
		expectValue(t, of(api.NodeLen, binary(outer, a, b)), "len(a "+outerSign+" b)")
		expectValue(t, of(api.NodeMake, binary(outer, a, b)), "make([]int, a "+outerSign+" b)")
		expectStatement(t, setAt("x", binary(outer, a, b), binary(outer, b, c)), "x[a "+outerSign+" b] = b "+outerSign+" c;")
		expectStatement(t, of(api.NodeIf, binary(outer, a, b), block()), "if a "+outerSign+" b {\n\t}")
	}
}

func TestP305Simple(t *testing.T) {
	a := name("a")
	simple := map[string]*shape{
		"7": num(7), "true": of(api.NodeTrue), "false": of(api.NodeFalse), "nil": of(api.NodeNil), "input()": of(api.NodeInput), "a": a,
		"f()": call("f"), "len(a)": of(api.NodeLen, a), "make([]int, a)": of(api.NodeMake, a), "a[a]": index(a, a),
	}
	for text, v := range simple {
		expectValue(t, index(v, v), text+"["+text+"]")
		for op, sign := range unarySigns {
			expectValue(t, unary(op, v), sign+text)
		}
		for op, sign := range binarySigns {
			expectValue(t, binary(op, v, v), text+" "+sign+" "+text)
		}
	}
	for outer, outerSign := range unarySigns {
		for inner, innerSign := range unarySigns {
			expectValue(t, unary(outer, unary(inner, a)), outerSign+innerSign+"a")
		}
		expectValue(t, index(unary(outer, a), unary(outer, a)), "("+outerSign+"a)["+outerSign+"a]")
	}
}

func TestP305Examples(t *testing.T) {
	a, b, c, zero := name("a"), name("b"), name("c"), num(0)
	expectValue(t, binary(api.OpSub, a, binary(api.OpSub, b, c)), "a - (b - c)")
	expectValue(t, binary(api.OpSub, binary(api.OpSub, a, b), c), "a - b - c")
	expectValue(t, binary(api.OpEq, binary(api.OpLt, a, b), c), "(a < b) == c")
	expectValue(t, binary(api.OpEq, a, binary(api.OpEq, b, c)), "a == (b == c)")
	expectValue(t, binary(api.OpEither, unary(api.OpNot, binary(api.OpBoth, a, b)), c), "!(a && b) || c")
	expectValue(t, unary(api.OpNeg, unary(api.OpNeg, a)), "--a")
	expectValue(t, unary(api.OpNeg, index(a, zero)), "-a[0]")
	expectValue(t, index(unary(api.OpNeg, a), zero), "(-a)[0]")
	expectValue(t, binary(api.OpAnd, a, unary(api.OpInv, b)), "a & ^b")
	expectValue(t, index(call("f", a, b), binary(api.OpAdd, name("i"), num(1))), "f(a, b)[i + 1]")
}

// without are the texts that lack one pair of parentheses around a value each.
func without(text string) []string {
	var open []int
	var texts []string
	for i := range len(text) {
		switch text[i] {
		case '(':
			open = append(open, i)
		case ')':
			from := open[len(open)-1]
			open = open[:len(open)-1]
			if strings.ContainsRune(" (![^-\t", rune(text[from-1])) {
				texts = append(texts, text[:from]+text[from+1:i]+text[i+1:])
			}
		}
	}
	return texts
}

// TestP306Drawn: a tree's text is one of the grammar, and its tree is that tree; no pair of parentheses can be spared.
func TestP306Drawn(t *testing.T) {
	d := drawn{rand.New(rand.NewSource(306))}
	pairs := 0
	for range 2000 {
		x := d.tree()
		text := textOf(x)
		back, err := parsed(text)
		if err != nil || !reflect.DeepEqual(plain(back), plain(x)) {
			t.Fatalf("%q: %v: read back as %q", text, err, textOf(back))
		}
		for _, less := range without(text) {
			pairs++
			if back, err := parsed(less); err == nil && reflect.DeepEqual(plain(back), plain(x)) {
				t.Fatalf("%q: parentheses that nobody needs: %q is the same tree", text, less)
			}
		}
	}
	if pairs < 1000 {
		t.Errorf("only %d pairs of parentheses", pairs)
	}
}

// TestP306OneText: places and types are not to be seen in a text; all else is.
func TestP306OneText(t *testing.T) {
	d := drawn{rand.New(rand.NewSource(3060))}
	texts := map[string]api.Tree{}
	same, others := 0, 0
	for range 2000 {
		x := d.tree()
		text := textOf(x)
		expectText(t, plain(x), text)
		for range 3 {
			c := clone(x)
			d.turn(&c)
			if tree.Check(c) != api.OK {
				continue
			}
			equal := reflect.DeepEqual(plain(c), plain(x))
			if (textOf(c) == text) != equal {
				t.Fatalf("%q and %q: the same tree: %v", text, textOf(c), equal)
			}
			if equal {
				same++
			} else {
				others++
			}
		}
		if first, ok := texts[text]; ok && !reflect.DeepEqual(first, plain(x)) {
			t.Fatalf("%q is the text of two trees", text)
		}
		texts[text] = plain(x)
	}
	if same < 100 || others < 100 {
		t.Errorf("%d the same, %d others: too few of one sort", same, others)
	}
}

// roomy is a tree whose lists have spare room, all of it filled.
func roomy(t api.Tree) api.Tree {
	c := api.Tree{Nodes: append(slices.Clone(t.Nodes), api.Node{Kind: 77}, api.Node{Kind: 78})[:len(t.Nodes)], Funcs: append(slices.Clone(t.Funcs), 77, 78)[:len(t.Funcs)]}
	for i := range c.Nodes {
		kids := c.Nodes[i].Kids
		c.Nodes[i].Kids = append(slices.Clone(kids), 77, 78)[:len(kids)]
	}
	return c
}

// room is a tree with all that its lists have room for.
func room(t api.Tree) api.Tree {
	c := clone(api.Tree{Nodes: t.Nodes[:cap(t.Nodes)], Funcs: t.Funcs[:cap(t.Funcs)]})
	for i := range t.Nodes {
		kids := t.Nodes[i].Kids
		c.Nodes[i].Kids = slices.Clone(kids[:cap(kids)])
	}
	return c
}

func TestP307OfItsOwn(t *testing.T) {
	d := drawn{rand.New(rand.NewSource(307))}
	for range 300 {
		x := roomy(d.tree())
		before := room(x)
		first, _ := tree.Print(x)
		second, err := tree.Print(x)
		if err != api.OK || !bytes.Equal(first, second) {
			t.Fatalf("printed twice: %q, %q, %v", first, second, err)
		}
		for i := range first[:cap(first)] {
			first[:cap(first)][i] = 'x'
		}
		third, _ := tree.Print(x)
		if !bytes.Equal(second, third) {
			t.Fatalf("a text has changed: %q, %q", second, third)
		}
		tree.Check(x)
		if !reflect.DeepEqual(room(x), before) {
			t.Fatalf("%q: the tree has changed", second)
		}
	}
}

// chain is a tree whose one statement prints a value that is nested by a rule: first the nodes ahead, then turn by turn what the rule adds.
func chain(turns int, ahead func(number int) []api.Node, add func(last int, number int) []api.Node) api.Tree {
	var t api.Tree
	for i := range turns {
		t.Nodes = append(t.Nodes, ahead(i)...)
	}
	t.Nodes = append(t.Nodes, api.Node{Kind: api.NodeName, Name: "a"})
	for i := range turns {
		t.Nodes = append(t.Nodes, add(len(t.Nodes)-1, turns-1-i)...)
	}
	for _, kind := range []int{api.NodePrint, api.NodeBlock, api.NodeFunc} {
		t.Nodes = append(t.Nodes, api.Node{Kind: kind, Kids: []int{len(t.Nodes) - 1}})
	}
	last := len(t.Nodes) - 1
	t.Nodes[last].Name, t.Funcs = "f", []int{last}
	return t
}

func noNodes(int) []api.Node { return nil }
func oneName(int) []api.Node { return []api.Node{{Kind: api.NodeName, Name: "b"}} }

// TestP307DeepValues has little stack for calls: what calls itself by the depth does not get through.
func TestP307DeepValues(t *testing.T) {
	defer debug.SetMaxStack(debug.SetMaxStack(1 << 18))
	const deep = 1 << 16
	on := func(n api.Node) func(int, int) []api.Node {
		return func(last, _ int) []api.Node {
			n.Kids = []int{last}
			return []api.Node{n}
		}
	}
	left := func(n api.Node) func(int, int) []api.Node {
		return func(last, _ int) []api.Node {
			n.Kids = []int{last, last + 1}
			return []api.Node{{Kind: api.NodeName, Name: "b"}, n}
		}
	}
	right := func(n api.Node) func(int, int) []api.Node {
		return func(last, number int) []api.Node {
			n.Kids = []int{number, last}
			return []api.Node{n}
		}
	}
	repeat := func(head, tail string) string {
		return "func f() {\n\tprint(" + strings.Repeat(head, deep) + "a" + strings.Repeat(tail, deep) + ");\n}\n"
	}
	expectText(t, chain(deep, noNodes, on(api.Node{Kind: api.NodeUnary, Op: api.OpNeg})), repeat("-", ""))
	expectText(t, chain(deep, noNodes, on(api.Node{Kind: api.NodeLen})), repeat("len(", ")"))
	expectText(t, chain(deep, noNodes, on(api.Node{Kind: api.NodeMake})), repeat("make([]int, ", ")"))
	expectText(t, chain(deep, noNodes, on(api.Node{Kind: api.NodeCall, Name: "g"})), repeat("g(", ")"))
	expectText(t, chain(deep, noNodes, left(api.Node{Kind: api.NodeIndex})), repeat("", "[b]"))
	expectText(t, chain(deep, noNodes, left(api.Node{Kind: api.NodeBinary, Op: api.OpSub})), repeat("", " - b"))
	expectText(t, chain(deep, oneName, right(api.Node{Kind: api.NodeIndex})), repeat("b[", "]"))
	pairs := strings.Replace(repeat("b - (", ")"), "(a)", "a", 1)
	expectText(t, chain(deep, oneName, right(api.Node{Kind: api.NodeBinary, Op: api.OpSub})), pairs)
	expectText(t, chain(deep, oneName, right(api.Node{Kind: api.NodeCall, Name: "g"})), repeat("g(b, ", ")"))
}

// nested is a tree of blocks within blocks: around makes the nodes that stand around the last one.
func nested(turns int, around func(last int) []api.Node) api.Tree {
	t := api.Tree{Nodes: []api.Node{{Kind: api.NodeBlock}}}
	for range turns {
		t.Nodes = append(t.Nodes, around(len(t.Nodes)-1)...)
	}
	last := len(t.Nodes)
	t.Nodes = append(t.Nodes, api.Node{Kind: api.NodeFunc, Name: "f", Kids: []int{last - 1}})
	t.Funcs = []int{last}
	return t
}

func inBlock(last int) []api.Node { return []api.Node{{Kind: api.NodeBlock, Kids: []int{last}}} }

func inLoop(last int) []api.Node {
	return []api.Node{{Kind: api.NodeFor, Kids: []int{last}}, {Kind: api.NodeBlock, Kids: []int{last + 1}}}
}

func TestP307DeepBlocks(t *testing.T) {
	defer debug.SetMaxStack(debug.SetMaxStack(1 << 18))
	for _, around := range []func(int) []api.Node{inBlock, inLoop} {
		if err := tree.Check(nested(1<<16, around)); err != api.OK {
			t.Errorf("deep: %v", err)
		}
	}
	const deep = 3000
	lines := func(head string) string {
		b := []byte("func f() {\n")
		for i := 1; i <= deep; i++ {
			b = append(b, strings.Repeat("\t", i)+head+"{\n"...)
		}
		for i := deep; i >= 1; i-- {
			b = append(b, strings.Repeat("\t", i)+"}\n"...)
		}
		return string(append(b, "}\n"...))
	}
	expectText(t, nested(deep, inBlock), lines(""))
	expectText(t, nested(deep, inLoop), lines("for "))
}

func TestP307DeepElse(t *testing.T) {
	defer debug.SetMaxStack(debug.SetMaxStack(1 << 18))
	const deep = 1 << 16
	var x api.Tree
	for range deep {
		x.Nodes = append(x.Nodes, api.Node{Kind: api.NodeTrue}, api.Node{Kind: api.NodeBlock})
	}
	for i := range deep {
		kids := []int{2 * (deep - 1 - i), 2*(deep-1-i) + 1}
		if i > 0 {
			kids = append(kids, len(x.Nodes)-1)
		}
		x.Nodes = append(x.Nodes, api.Node{Kind: api.NodeIf, Kids: kids})
	}
	last := len(x.Nodes)
	x.Nodes = append(x.Nodes, api.Node{Kind: api.NodeBlock, Kids: []int{last - 1}}, api.Node{Kind: api.NodeFunc, Name: "f", Kids: []int{last}})
	x.Funcs = []int{last + 1}
	expectText(t, x, "func f() {\n\t"+strings.Repeat("if true {\n\t} else ", deep-1)+"if true {\n\t}\n}\n")
	x.Nodes[last-1].Kids = x.Nodes[last-1].Kids[:2]
	expectTree(t, "a chain that is cut", x, false)
}
