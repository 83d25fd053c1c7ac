package tree_test

import (
	"math"
	"math/rand"
	"regexp"
	"slices"
	"strings"
	"testing"

	"quern/api"
	"quern/tree"
)

const (
	anyInt   = "any"
	noneOf   = ""
	typeSpan = "0 1 2 3"
)

// row is a row of P301: the kids as a pattern over the letters of kinds, the other fields as what they may be.
type row struct {
	kids                    string
	where, close, decl, typ string
	opLeast, opMost         int
	value, named            bool
}

// rows are P301's; letters: F a Func, P a Param, B a Block, I an If, S another statement, C a Call, E another expression.
var rows = map[int]row{
	api.NodeFunc:     {kids: "P*B", where: anyInt, close: anyInt, decl: typeSpan, named: true},
	api.NodeParam:    {where: anyInt, decl: "1 2 3", named: true},
	api.NodeBlock:    {kids: "[BIS]*"},
	api.NodeVar:      {kids: "[CE]?", where: anyInt, decl: "1 2 3", named: true},
	api.NodeSet:      {kids: "[CE]", where: anyInt, named: true},
	api.NodeSetAt:    {kids: "[CE][CE]", where: anyInt, named: true},
	api.NodeCallStmt: {kids: "C"},
	api.NodePrint:    {kids: "[CE]"},
	api.NodePanic:    {kids: "[CE]"},
	api.NodeIf:       {kids: "[CE]B[BI]?"},
	api.NodeFor:      {kids: "[CE]?B"},
	api.NodeReturn:   {kids: "[CE]?"},
	api.NodeBreak:    {},
	api.NodeContinue: {},
	api.NodeNum:      {typ: typeSpan, value: true},
	api.NodeTrue:     {typ: typeSpan},
	api.NodeFalse:    {typ: typeSpan},
	api.NodeNil:      {typ: typeSpan},
	api.NodeInput:    {typ: typeSpan},
	api.NodeName:     {where: anyInt, typ: typeSpan, named: true},
	api.NodeCall:     {kids: "[CE]*", where: anyInt, typ: typeSpan, named: true},
	api.NodeLen:      {kids: "[CE]", typ: typeSpan},
	api.NodeMake:     {kids: "[CE]", typ: typeSpan},
	api.NodeIndex:    {kids: "[CE][CE]", typ: typeSpan},
	api.NodeUnary:    {kids: "[CE]", typ: typeSpan, opLeast: 20, opMost: 22},
	api.NodeBinary:   {kids: "[CE][CE]", where: anyInt, typ: typeSpan, opLeast: 1, opMost: 19},
}

var (
	nameForm = regexp.MustCompile(`^[A-Za-z_][A-Za-z_0-9]{0,63}$`)
	wordForm = regexp.MustCompile(`^(func|var|if|else|for|return|break|continue|print|panic|input|len|make|int|bool|true|false|nil)$`)
	kidForms = kidPatterns()
)

func kidPatterns() map[int]*regexp.Regexp {
	m := map[int]*regexp.Regexp{}
	for kind, r := range rows {
		m[kind] = regexp.MustCompile("^(" + r.kids + ")$")
	}
	return m
}

func letterOf(kind int) string {
	switch {
	case kind == api.NodeFunc:
		return "F"
	case kind == api.NodeParam:
		return "P"
	case kind == api.NodeBlock:
		return "B"
	case kind == api.NodeIf:
		return "I"
	case kind == api.NodeCall:
		return "C"
	case 3 <= kind && kind <= 14:
		return "S"
	case 20 <= kind && kind <= 31:
		return "E"
	}
	return "?"
}

// may tells whether a number is as a row's words have it.
func may(words string, n int) bool {
	switch words {
	case anyInt:
		return true
	case noneOf:
		return n == 0
	}
	return 0 <= n && n <= 9 && strings.Contains(words, string(rune('0'+n)))
}

func isRow(n api.Node) bool {
	r, ok := rows[n.Kind]
	named := n.Name == ""
	if r.named {
		named = nameForm.MatchString(n.Name) && !strings.HasSuffix(n.Name, "\n") && !wordForm.MatchString(n.Name)
	}
	return ok && named && may(r.where, n.Where) && may(r.close, n.Close) && may(r.decl, n.Decl) && may(r.typ, n.Type) &&
		r.opLeast <= n.Op && n.Op <= r.opMost && (n.Value == 0 || r.value && n.Value > 0)
}

// isTree asks P301 and P302 word by word: it walks the functions and numbers what it comes to.
func isTree(t api.Tree) bool {
	entered, come := 0, 0
	var walk func(number int) bool
	walk = func(number int) bool {
		entered++
		if number < 0 || number >= len(t.Nodes) || entered > len(t.Nodes) {
			return false
		}
		n, letters := t.Nodes[number], ""
		for _, kid := range n.Kids {
			if !walk(kid) {
				return false
			}
			letters += letterOf(t.Nodes[kid].Kind)
		}
		come++
		return come-1 == number && isRow(n) && kidForms[n.Kind].MatchString(letters)
	}
	for _, f := range t.Funcs {
		if !walk(f) || t.Nodes[f].Kind != api.NodeFunc {
			return false
		}
	}
	return come == len(t.Nodes)
}

func expectTree(t *testing.T, what string, x api.Tree, right bool) {
	t.Helper()
	want := api.ErrTree
	if right {
		want = api.OK
	}
	if err := tree.Check(x); err != want {
		t.Errorf("%s: Check: %v, want %v: %.2000v", what, err, want, x)
	}
	text, err := tree.Print(x)
	if err != want || err != api.OK && len(text) > 0 {
		t.Errorf("%s: Print: %.200q %v, want %v: %.2000v", what, text, err, want, x)
	}
}

func numbers() []int {
	l := []int{math.MinInt, math.MinInt + 1, math.MinInt32, -100, 40, 255, 256, 257, 1 << 31, 1<<32 + 1, math.MaxInt}
	for n := -3; n <= 34; n++ {
		l = append(l, n)
	}
	return l
}

// TestP301Fields turns each field of each kind, in a tree that is right but for it.
func TestP301Fields(t *testing.T) {
	turns := map[string]func(n *api.Node, to int){
		"At":    func(n *api.Node, to int) { n.At = to },
		"Where": func(n *api.Node, to int) { n.Where = to },
		"Close": func(n *api.Node, to int) { n.Close = to },
		"Decl":  func(n *api.Node, to int) { n.Decl = to },
		"Type":  func(n *api.Node, to int) { n.Type = to },
		"Op":    func(n *api.Node, to int) { n.Op = to },
		"Value": func(n *api.Node, to int) { n.Value = to },
	}
	for _, kind := range kinds() {
		expectTree(t, "as it is", around(leaf(kind)), true)
		for field, turn := range turns {
			for _, to := range numbers() {
				s := leaf(kind)
				turn(&s.node, to)
				expectTree(t, field, around(s), isRow(s.node))
			}
		}
	}
}

func TestP301Names(t *testing.T) {
	words := strings.Fields("func var if else for return break continue print panic input len make int bool true false nil")
	wrong := append(words, "", "1a", "0", "a b", "a ", " a", "a\n", "a-", "-", "é", "a//", "//", "\x00", strings.Repeat("n", 65), strings.Repeat("n", 1<<16))
	right := []string{"a", "_", "Z9", "main", "If", "ifs", "fun", strings.Repeat("n", 64)}
	for _, kind := range kinds() {
		for _, s := range wrong {
			x := leaf(kind)
			x.node.Name = s
			expectTree(t, "a wrong name", around(x), s == "" && !rows[kind].named)
		}
		for _, s := range right {
			x := leaf(kind)
			x.node.Name = s
			expectTree(t, "a right name", around(x), rows[kind].named)
		}
	}
}

func TestP301OtherKinds(t *testing.T) {
	for _, kind := range numbers() {
		if _, known := rows[kind]; known {
			continue
		}
		expectTree(t, "another kind, as a statement", mainOf(of(kind)), false)
		expectTree(t, "another kind, as a value", mainOf(show(of(kind))), false)
		expectTree(t, "another kind, as a parameter", flat(function("f", of(kind), block())), false)
		expectTree(t, "another kind, as a block", flat(function("f", of(kind))), false)
		expectTree(t, "another kind, as a function", flat(of(kind, block())), false)
		expectTree(t, "another kind, alone", flat(of(kind)), false)
	}
}

// TestP301Kids gives each kind all lists of up to two kids, and many of three and four.
func TestP301Kids(t *testing.T) {
	few := []int{api.NodeFunc, api.NodeParam, api.NodeBlock, api.NodeSet, api.NodeCallStmt, api.NodeIf, api.NodeFor, api.NodeNum, api.NodeCall, api.NodeBinary}
	fewer := []int{api.NodeParam, api.NodeBlock, api.NodeIf, api.NodeNum, api.NodeCall}
	lists := [][]int{nil}
	for _, a := range kinds() {
		lists = append(lists, []int{a})
		for _, b := range kinds() {
			lists = append(lists, []int{a, b})
		}
	}
	for _, a := range few {
		for _, b := range few {
			for _, c := range few {
				lists = append(lists, []int{a, b, c})
			}
		}
	}
	for i := range 5 * 5 * 5 * 5 {
		lists = append(lists, []int{fewer[i%5], fewer[i/5%5], fewer[i/25%5], fewer[i/125]})
	}
	for _, kind := range kinds() {
		for _, list := range lists {
			s, letters := leaf(kind), ""
			s.kids = nil
			for _, kid := range list {
				s.kids = append(s.kids, leaf(kid))
				letters += letterOf(kid)
			}
			expectTree(t, "kids", around(s), kidForms[kind].MatchString(letters))
		}
	}
}

func TestP301ManyKids(t *testing.T) {
	var params, statements, values []*shape
	for range 2000 {
		params = append(params, param("p", api.TypeInts))
		statements = append(statements, of(api.NodeBreak))
		values = append(values, num(0))
	}
	wide := func() api.Tree {
		return flat(function("f", append(slices.Clone(params), block(append(slices.Clone(statements), show(call("g", values...)))...))...))
	}
	expectTree(t, "many kids", wide(), true)
	statements[999] = of(api.NodeNum)
	expectTree(t, "a value among the statements", wide(), false)
	statements[999], values[1999] = of(api.NodeContinue), of(api.NodeBreak)
	expectTree(t, "a statement among the values", wide(), false)
	values[1999], params[0] = num(1), block()
	expectTree(t, "a block among the parameters", wide(), false)
	params[0] = param("q", api.TypeBool)
	expectTree(t, "right again", wide(), true)
}

// sample is the tree of func main(){x=-(1+2)*3;}.
func sample() api.Tree {
	return mainOf(set("x", binary(api.OpMul, unary(api.OpNeg, binary(api.OpAdd, num(1), num(2))), num(3))))
}

// exchanged is a tree with two nodes exchanged, Kids and Funcs too.
func exchanged(t api.Tree, a, b int) api.Tree {
	c := clone(t)
	c.Nodes[a], c.Nodes[b] = c.Nodes[b], c.Nodes[a]
	turn := func(l []int) {
		for i := range l {
			switch l[i] {
			case a:
				l[i] = b
			case b:
				l[i] = a
			}
		}
	}
	for i := range c.Nodes {
		turn(c.Nodes[i].Kids)
	}
	turn(c.Funcs)
	return c
}

func TestP302Order(t *testing.T) {
	first := flat(function("f", param("p", 1), block(show(binary(api.OpAdd, num(1), num(2))), of(api.NodeBreak))), function("g", block()), function("h", block(of(api.NodeReturn))))
	expectTree(t, "three functions", first, true)
	for a := range first.Nodes {
		for b := range a {
			expectTree(t, "two nodes exchanged", exchanged(first, a, b), false)
		}
	}
	for i, n := range first.Nodes {
		for k := range n.Kids {
			for to := -1; to <= len(first.Nodes); to++ {
				c := clone(first)
				c.Nodes[i].Kids[k] = to
				expectTree(t, "another kid", c, to == n.Kids[k])
			}
			for _, to := range []int{math.MinInt, math.MaxInt, 1 << 32, n.Kids[k] + 1<<32} {
				c := clone(first)
				c.Nodes[i].Kids[k] = to
				expectTree(t, "a kid far beyond", c, false)
			}
		}
	}
}

// TestP302Walk has right nodes whose kids are the wrong ones.
func TestP302Walk(t *testing.T) {
	two := func(a, b int) api.Node { return api.Node{Kind: api.NodeBinary, Op: api.OpAdd, Kids: []int{a, b}} }
	leafNode := api.Node{Kind: api.NodeNum}
	for _, x := range []struct {
		what  string
		nodes []api.Node
		right bool
	}{
		{"a + (b + c)", []api.Node{leafNode, leafNode, leafNode, two(1, 2), two(0, 3)}, true},
		{"(a + b) + c", []api.Node{leafNode, leafNode, two(0, 1), leafNode, two(2, 3)}, true},
		{"a + (b + c) with a in the middle", []api.Node{leafNode, leafNode, leafNode, two(0, 2), two(1, 3)}, false},
		{"(a + b) + c with c ahead", []api.Node{leafNode, leafNode, leafNode, two(0, 1), two(3, 2)}, false},
		{"(a + b) + c with c ahead, in the order of numbers", []api.Node{leafNode, leafNode, leafNode, two(0, 1), two(2, 3)}, false},
		{"the kids the other way round", []api.Node{leafNode, leafNode, leafNode, two(2, 1), two(0, 3)}, false},
		{"one kid twice", []api.Node{leafNode, leafNode, leafNode, two(2, 2), two(0, 3)}, false},
		{"a kid of two nodes", []api.Node{leafNode, leafNode, two(0, 1), two(1, 2), two(2, 3)}, false},
		{"a node that is nobody's kid", []api.Node{leafNode, leafNode, leafNode, leafNode, two(2, 3)}, false},
		{"a node of its own kid", []api.Node{leafNode, leafNode, leafNode, two(1, 3), two(0, 3)}, false},
		{"two nodes of each other", []api.Node{leafNode, leafNode, leafNode, two(1, 4), two(0, 3)}, false},
	} {
		nodes := append(slices.Clone(x.nodes), api.Node{Kind: api.NodePrint, Kids: []int{4}}, api.Node{Kind: api.NodeBlock, Kids: []int{5}}, api.Node{Kind: api.NodeFunc, Name: "f", Kids: []int{6}})
		expectTree(t, x.what, api.Tree{Nodes: nodes, Funcs: []int{7}}, x.right)
	}
}

func TestP302Funcs(t *testing.T) {
	three := flat(function("f", block()), function("g", block(show(num(1)))), function("h", block()))
	for _, x := range []struct {
		funcs []int
		right bool
	}{
		{[]int{1, 5, 7}, true},
		{nil, false}, {[]int{1}, false}, {[]int{1, 5}, false}, {[]int{5, 7}, false}, {[]int{1, 7}, false},
		{[]int{5, 1, 7}, false}, {[]int{7, 5, 1}, false}, {[]int{1, 7, 5}, false},
		{[]int{1, 1, 5, 7}, false}, {[]int{1, 5, 7, 7}, false}, {[]int{1, 5, 5}, false},
		{[]int{1, 5, 6}, false}, {[]int{0, 5, 7}, false}, {[]int{1, 5, 6, 7}, false}, {[]int{1, 5, 7, 8}, false},
		{[]int{1, 5, -1}, false}, {[]int{1, 5, math.MaxInt}, false}, {[]int{math.MinInt, 5, 7}, false}, {[]int{-1, 1, 5, 7}, false},
	} {
		c := clone(three)
		c.Funcs = x.funcs
		expectTree(t, "Funcs", c, x.right)
	}
	for _, kind := range kinds() {
		expectTree(t, "a root", flat(leaf(kind)), kind == api.NodeFunc)
		expectTree(t, "a root behind a function", flat(function("f", block()), leaf(kind)), kind == api.NodeFunc)
	}
	expectTree(t, "a function's kid in a block", mainOf(function("f", block())), false)
}

func TestP303Check(t *testing.T) {
	expectTree(t, "nothing", api.Tree{}, true)
	expectTree(t, "empty lists", api.Tree{Nodes: []api.Node{}, Funcs: []int{}}, true)
	expectTree(t, "a function without nodes", api.Tree{Funcs: []int{0}}, false)
	expectTree(t, "a node without functions", api.Tree{Nodes: []api.Node{{}}}, false)
	turned := func(turn func(*api.Tree)) api.Tree {
		c := sample()
		turn(&c)
		return c
	}
	expectTree(t, "the sample", sample(), true)
	expectTree(t, "the sample, empty kids", turned(func(c *api.Tree) { c.Nodes[0].Kids = []int{} }), true)
	expectTree(t, "3 and 4 exchanged", exchanged(sample(), 3, 4), false)
	expectTree(t, "no Funcs", turned(func(c *api.Tree) { c.Funcs = nil }), false)
	expectTree(t, "a Num behind it", turned(func(c *api.Tree) { c.Nodes = append(c.Nodes, api.Node{Kind: api.NodeNum}) }), false)
	for _, s := range []string{"if", "", "1a"} {
		expectTree(t, "a name", turned(func(c *api.Tree) { c.Nodes[6].Name = s }), false)
	}
	expectTree(t, "the Value -1", turned(func(c *api.Tree) { c.Nodes[0].Value = -1 }), false)
	expectTree(t, "the Op 1", turned(func(c *api.Tree) { c.Nodes[0].Op = 1 }), false)
	expectTree(t, "the Type 4", turned(func(c *api.Tree) { c.Nodes[0].Type = 4 }), false)
}

// TestP303Drawn holds drawn trees, and trees with a thing or two turned, against the walk of isTree.
func TestP303Drawn(t *testing.T) {
	d := drawn{rand.New(rand.NewSource(303))}
	right, wrong := 0, 0
	for range 3000 {
		x := d.tree()
		expectTree(t, "drawn", x, true)
		for range 4 {
			c := clone(x)
			for range 1 + d.Intn(2) {
				d.turn(&c)
			}
			is := isTree(c)
			if is {
				right++
			} else {
				wrong++
			}
			expectTree(t, "turned", c, is)
		}
		if t.Failed() {
			return
		}
	}
	if right < 500 || wrong < 5000 {
		t.Errorf("turned trees: %d right, %d wrong: too few of one sort", right, wrong)
	}
}

// turn changes one thing of a tree.
func (d drawn) turn(c *api.Tree) {
	if len(c.Nodes) == 0 {
		c.Funcs = append(c.Funcs, d.Intn(2))
		return
	}
	n := &c.Nodes[d.Intn(len(c.Nodes))]
	small := d.Intn(26) - 2
	switch d.Intn(14) {
	case 0:
		n.At = small
	case 1:
		n.Where = small
	case 2:
		n.Close = small
	case 3:
		n.Decl = d.Intn(6) - 1
	case 4:
		n.Type = d.Intn(6) - 1
	case 5:
		n.Op = small
	case 6:
		n.Value = small
	case 7:
		n.Name = []string{"", "a", "nil", "a b", "q"}[d.Intn(5)]
	case 8:
		n.Kind = d.Intn(33)
	case 9:
		n.Kids = append(n.Kids, d.Intn(len(c.Nodes)+2)-1)
	case 10:
		n.Kids = n.Kids[:len(n.Kids)-min(1, len(n.Kids))]
	case 11:
		d.turnList(n.Kids, len(c.Nodes))
	case 12:
		d.turnList(c.Funcs, len(c.Nodes))
	case 13:
		*c = exchanged(*c, d.Intn(len(c.Nodes)), d.Intn(len(c.Nodes)))
	}
}

func (d drawn) turnList(l []int, nodes int) {
	if len(l) > 0 {
		l[d.Intn(len(l))] = d.Intn(nodes+2) - 1
	}
}
