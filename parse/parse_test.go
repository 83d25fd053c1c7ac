package parse_test

import (
	"math"
	"math/rand"
	"reflect"
	"regexp"
	"runtime/debug"
	"slices"
	"strconv"
	"strings"
	"testing"

	"quern/api"
	"quern/lex"
	"quern/parse"
	"quern/tree"
)

const allWords = "func var if else for return break continue print panic input len make int bool true false nil"

var nameForm = regexp.MustCompile(`^[A-Za-z_][A-Za-z_0-9]{0,63}$`)

// right is P401's word.
func right(token api.Token) bool {
	switch k := token.Kind; {
	case k == api.TokName:
		return nameForm.MatchString(token.Name) && !slices.Contains(strings.Fields(allWords), token.Name)
	case k == api.TokNumber:
		return token.Value >= 0
	default:
		return 10 <= k && k <= 27 || 40 <= k && k <= 68
	}
}

func cut(t *testing.T, text string) []api.Token {
	t.Helper()
	tokens, _, err := lex.Tokens([]byte(text))
	if err != api.OK {
		t.Fatalf("%.200q: %v", text, err)
	}
	return tokens
}

// expectFault asks for an error, its place, and nothing beside it.
func expectFault(t *testing.T, tokens []api.Token, end, at int, err api.Errno) {
	t.Helper()
	x, nests, gotAt, gotErr := parse.Parse(tokens, end)
	if gotErr != err || gotAt != at {
		t.Errorf("%v: %d %v, want %d %v", tokens, gotAt, gotErr, at, err)
	}
	if len(x.Nodes) > 0 || len(x.Funcs) > 0 || len(nests) > 0 {
		t.Errorf("%v: %v %v beside an error", tokens, x, nests)
	}
}

func expectTextFault(t *testing.T, text string, at int, err api.Errno) {
	t.Helper()
	expectFault(t, cut(t, text), len(text), at, err)
}

// same holds trees against each other; a list of nothing may be nil.
func same(a, b api.Tree) bool {
	if !slices.Equal(a.Funcs, b.Funcs) || len(a.Nodes) != len(b.Nodes) {
		return false
	}
	for i := range a.Nodes {
		m, n := a.Nodes[i], b.Nodes[i]
		if !slices.Equal(m.Kids, n.Kids) {
			return false
		}
		m.Kids, n.Kids = nil, nil
		if !reflect.DeepEqual(m, n) {
			return false
		}
	}
	return true
}

func clone(x api.Tree) api.Tree {
	c := api.Tree{Nodes: slices.Clone(x.Nodes), Funcs: slices.Clone(x.Funcs)}
	for i := range c.Nodes {
		c.Nodes[i].Kids = slices.Clone(c.Nodes[i].Kids)
	}
	return c
}

func expectTree(t *testing.T, what string, tokens []api.Token, want api.Tree, nests []int) {
	t.Helper()
	x, gotNests, at, err := parse.Parse(tokens, 77)
	if err != api.OK || at != 0 || !slices.Equal(gotNests, nests) {
		t.Errorf("%s: %v %d %v, want %v", what, gotNests, at, err, nests)
	} else if !same(x, want) {
		t.Errorf("%s: %v, want %v", what, x, want)
	}
}

// everyKind has a right token of each kind.
func everyKind() []api.Token {
	l := []api.Token{{Kind: api.TokName, Name: "x"}, {Kind: api.TokNumber, Value: 5}}
	for k := api.TokFunc; k <= api.TokNil; k++ {
		l = append(l, api.Token{Kind: k})
	}
	for k := api.TokOpen; k <= api.TokNot; k++ {
		l = append(l, api.Token{Kind: k})
	}
	return l
}

// wrong are tokens that are not right.
func wrong() []api.Token {
	l := []api.Token{
		{Kind: api.TokNumber, Value: -1}, {Kind: api.TokNumber, Value: math.MinInt}, {Kind: api.TokNumber, Value: -1, Name: "x"},
		{Kind: api.TokName}, {Kind: api.TokName, Value: 1},
	}
	for k := -2; k <= 80; k++ {
		if !right(api.Token{Kind: k}) && k != api.TokName {
			l = append(l, api.Token{Kind: k, Name: "x"})
		}
	}
	for _, k := range []int{math.MinInt, math.MaxInt, 1 << 32, 1<<32 + api.TokFunc, 1<<32 + api.TokName, 256 + api.TokName, -api.TokName} {
		l = append(l, api.Token{Kind: k, Name: "x"})
	}
	names := append(strings.Fields(allWords), "1", "1a", "a b", " a", "a ", "a\n", "a//", "a-b", "a\x00", "é", "+", strings.Repeat("a", 65), strings.Repeat("a", 1000))
	for _, s := range names {
		l = append(l, api.Token{Kind: api.TokName, Name: s})
	}
	return l
}

// everyRule is a text that goes each rule's ways.
const everyRule = `
func none() {}
func f(a int) int { return a; }
func g(a bool, b []int, c int) []int { return nil; }
func h() bool {
	var a int; var b bool = true; var c []int = make([]int, 2 + a);
	a = 1; a[0] = 2; a[b[1]] = c[2][3]; none(); f(1); g(false, nil, (a));
	print(a); panic(-a);
	if a {} if a { b = 1; } else {} if !a {} else if b {} else if c {} else { break; }
	for {} for a < b { continue; } {} { { } }
	return;
}
func main() {
	x = a || b || c; x = a && b && c || d && e; x = a == b; x = a != b && c < d || e <= f;
	x = a > b; x = a >= b; x = a + b - c | d ^ e; x = a * b / c % d << e >> f & g &^ h;
	x = a + b * c - d < e & f + g && (h || i) == j; x = - - a; x = ^!-a[1] * -b; x = (-a)[2][3];
	x = input() + len(a) - len(f(a)[1]); x = f(a, b + 1, g())[0]; x = (((a)))[(1)]; x = make([]int, len(b))[0];
	return -1;
}
`

func TestP401TokensThatAreNotRight(t *testing.T) {
	tokens := cut(t, everyRule)
	for _, token := range wrong() {
		if right(token) {
			t.Fatalf("%v is right", token)
		}
		for i := 0; i <= len(tokens); i += 3 + i%7 {
			token.At = -3 - i
			expectFault(t, append(slices.Clone(tokens[:i]), token), 9, token.At, api.ErrParseToken)
			expectFault(t, append(append(slices.Clone(tokens[:i]), token), tokens[i:]...), 9, token.At, api.ErrParseToken)
		}
	}
	for i := range tokens {
		for _, token := range wrong()[:8] {
			token.At = -5
			expectFault(t, append(append(slices.Clone(tokens[:i]), token), tokens[i+1:]...), 9, -5, api.ErrParseToken)
		}
	}
	expectFault(t, []api.Token{{Kind: 7, At: -3}}, 0, -3, api.ErrParseToken)
	expectFault(t, []api.Token{{Kind: api.TokFunc}, {Kind: api.TokName, Name: "for", At: -3}}, 0, -3, api.ErrParseToken)
}

func TestP401WhatIsNotLookedAt(t *testing.T) {
	tokens := cut(t, everyRule)
	want, nests, _, err := parse.Parse(tokens, 0)
	if err != api.OK {
		t.Fatal(err)
	}
	for i := range tokens {
		if tokens[i].Kind != api.TokName {
			tokens[i].Name = []string{"", "if", "1", "\x00"}[i%4]
		}
		if tokens[i].Kind != api.TokNumber {
			tokens[i].Value = []int{-1, math.MinInt, math.MaxInt}[i%3]
		}
	}
	expectTree(t, "fields of other kinds", tokens, want, nests)
	long := strings.Repeat("a", api.MaxName)
	x, _, _, err := parse.Parse([]api.Token{{Kind: api.TokFunc}, {Kind: api.TokName, Name: long}, {Kind: api.TokOpen}, {Kind: api.TokClose}, {Kind: api.TokBegin}, {Kind: api.TokReturn}, {Kind: api.TokNumber, Value: math.MaxInt}, {Kind: api.TokSemi}, {Kind: api.TokEnd}}, 0)
	if err != api.OK || x.Nodes[3].Name != long || x.Nodes[0].Value != math.MaxInt {
		t.Errorf("at the limits: %v %v", x, err)
	}
}

func TestP402Examples(t *testing.T) {
	expectTree(t, "nothing", nil, api.Tree{}, nil)
	expectTree(t, "nothing", []api.Token{}, api.Tree{}, nil)
	for _, x := range []struct {
		text string
		at   int
	}{
		{"func main() { x 1; }", 16}, {"func main() { x = a < b < c; }", 24}, {"func main() { else {} }", 14},
		{"func main() { a[1][2] = 3; }", 18}, {"func main() { len(a); }", 14}, {"func main() {} x", 15}, {"func if() {}", 5},
		{"func main() { if a {} else b = 1; }", 27}, {"func f(a int,) {}", 13}, {"func f() [int {}", 10}, {"func f(a) {}", 8},
		{"func f() { g(a,); }", 15}, {"func f() { g(,a); }", 13}, {"func f() { x = input(1); }", 21}, {"func f() { x = make(int, 1); }", 20},
		{"func f() { x = make([]int); }", 25}, {"func f() { x = make([]bool, 1); }", 22}, {"func f() { var x; }", 16}, {"func f() { return }", 18},
		{"func f() { ; }", 11}, {"func f() { x = a == b != c; }", 22}, {"func f() { x = a + b < c * d >= -e; }", 29}, {"func f() { x = a < b && c < d > e; }", 30},
		{"func f() { x = a a; }", 17}, {"func f() { x = 1(2); }", 16}, {"func f() { x = a[1](2); }", 19}, {"func f() { x = f(1)(2); }", 19}, {"func f() { f(1)[2] = 3; }", 15},
		{"func f() { (f)(); }", 11}, {"func f() { x = (a; }", 17}, {"func f() { x = (); }", 16}, {"func f() { x = a[]; }", 17}, {"func f() { x = a); }", 16},
		{"func f() { print(); }", 17}, {"func f() { print(1, 2); }", 18}, {"func f() { print 1; }", 17}, {"func f() { if {} }", 14}, {"func f() { if a b = 1; }", 16}, {"func f() { for a; {} }", 16},
		{"func f() { if a {}; }", 18}, {"func f() { x = a !b; }", 17}, {"func f() { x = a = b; }", 17}, {"func f() { break 1; }", 17}, {"func f() {}}", 11}, {"func f() [][]int {}", 11},
		{"func f() { func g() {} }", 11}, {"func f() nil {}", 9}, {"func f(int) {}", 7}, {"x", 0}, {"func f() { x = int; }", 15}, {"func f() { var x int 1; }", 21}, {"func f() { x = +a; }", 15},
	} {
		expectTextFault(t, x.text, x.at, api.ErrParseToken)
	}
	expectTextFault(t, "func main() { x = 1", 19, api.ErrParseEnd)
	expectTextFault(t, "func", 4, api.ErrParseEnd)
}

// expectVerdict holds Parse against the grammar.
func expectVerdict(t *testing.T, g *grammar, tokens []api.Token, end int) {
	t.Helper()
	at, err := verdict(g, tokens, end)
	if err != api.OK {
		expectFault(t, tokens, end, at, err)
		return
	}
	x, nests, at, err := parse.Parse(tokens, end)
	if err != api.OK || at != 0 || tree.Check(x) != api.OK || len(nests) != len(x.Funcs) {
		t.Errorf("%v: %v %v %d %v", tokens, x, nests, at, err)
	}
}

func TestP402EveryBeginning(t *testing.T) {
	g := documentGrammar()
	tokens := cut(t, everyRule)
	for i := range tokens {
		expectVerdict(t, g, tokens[:i], []int{-8, 0, math.MinInt, math.MaxInt}[i%4])
	}
}

// expectFollowing asks behind each beginning of the tokens which tokens can follow.
func expectFollowing(t *testing.T, g *grammar, tokens []api.Token) {
	t.Helper()
	c := newChart(g)
	for i := 0; ; i++ {
		can := c.following()
		for _, token := range everyKind() {
			token.At = -9 - i
			l := append(slices.Clone(tokens[:i]), token)
			if !can[token.Kind] {
				expectFault(t, l, 5, token.At, api.ErrParseToken)
			} else if _, _, at, err := parse.Parse(l, 5); err == api.ErrParseToken || err == api.ErrParseEnd && at != 5 {
				t.Errorf("%v can follow: %d %v", l, at, err)
			}
		}
		if i == len(tokens) {
			break
		}
		if !c.take(tokens[i].Kind) {
			t.Fatalf("%v: the grammar refuses token %d", tokens, i)
		}
	}
	if !c.whole() {
		t.Fatalf("%v: the grammar refuses it", tokens)
	}
}

func TestP402EveryTokenBehindEveryBeginning(t *testing.T) {
	g := documentGrammar()
	for _, text := range strings.Split(everyRule, "\nfunc")[1:] {
		expectFollowing(t, g, cut(t, "func"+text))
	}
	expectFollowing(t, g, cut(t, "func f() {} func g() {}"))
	for seed := range int64(60) {
		expectFollowing(t, g, drawn(seed, 40).tokens)
	}
}

func TestP402DrawnFaults(t *testing.T) {
	g := documentGrammar()
	draw := rand.New(rand.NewSource(402))
	all := append(everyKind(), wrong()[:4]...)
	for seed := range int64(1500) {
		tokens := drawn(1000+seed, 30).tokens
		for range 1 + draw.Intn(3) {
			i := draw.Intn(len(tokens))
			token := all[draw.Intn(len(all))]
			token.At = draw.Int()
			switch draw.Intn(4) {
			case 0:
				tokens = slices.Delete(tokens, i, i+1)
			case 1:
				tokens = slices.Insert(tokens, i, token)
			case 2:
				tokens[i] = token
			case 3:
				j := draw.Intn(len(tokens))
				tokens[i], tokens[j] = tokens[j], tokens[i]
			}
			if len(tokens) == 0 {
				break
			}
		}
		expectVerdict(t, g, tokens, draw.Int()-draw.Int())
	}
}

// kindNames are short names of the kinds of nodes.
var kindNames = map[int]string{
	api.NodeFunc: "Func", api.NodeParam: "Param", api.NodeBlock: "Block", api.NodeVar: "Var", api.NodeSet: "Set", api.NodeSetAt: "SetAt",
	api.NodeCallStmt: "CallStmt", api.NodePrint: "Print", api.NodePanic: "Panic", api.NodeIf: "If", api.NodeFor: "For", api.NodeReturn: "Return",
	api.NodeBreak: "Break", api.NodeContinue: "Continue", api.NodeNum: "Num", api.NodeTrue: "True", api.NodeFalse: "False", api.NodeNil: "Nil",
	api.NodeName: "Name", api.NodeCall: "Call", api.NodeInput: "Input", api.NodeLen: "Len", api.NodeMake: "Make", api.NodeIndex: "Index",
	api.NodeUnary: "Unary", api.NodeBinary: "Binary",
}

// told is a node in words: its kind and At, then what is not zero.
func told(n api.Node) string {
	s := kindNames[n.Kind] + "@" + strconv.Itoa(n.At)
	for _, f := range []struct {
		what  string
		value int
	}{{"where", n.Where}, {"close", n.Close}, {"decl", n.Decl}, {"type", n.Type}, {"op", n.Op}, {"value", n.Value}} {
		if f.value != 0 {
			s += " " + f.what + strconv.Itoa(f.value)
		}
	}
	if n.Name != "" {
		s += " " + n.Name
	}
	for _, kid := range n.Kids {
		s += " #" + strconv.Itoa(kid)
	}
	return s
}

// expectNodes asks for the nodes of a text; of a statement, in a function's block that begins at 7, for those of the statement.
func expectNodes(t *testing.T, text string, want ...string) {
	t.Helper()
	statement := !strings.HasPrefix(text, "func")
	if statement {
		text = "func f(){" + text + "}"
	}
	x, _, at, err := parse.Parse(cut(t, text), len(text))
	if err != api.OK || at != 0 {
		t.Errorf("%q: %d %v", text, at, err)
		return
	}
	var got []string
	for _, n := range x.Nodes {
		got = append(got, told(n))
	}
	if statement {
		last := strconv.Itoa(len(want) - 1)
		want = append(want, "Block@8 #"+last, "Func@0 where5 close"+strconv.Itoa(len(text)-1)+" f #"+strconv.Itoa(len(want)))
	}
	if !slices.Equal(got, want) {
		t.Errorf("%q: %q, want %q", text, got, want)
	}
	if err := tree.Check(x); err != api.OK {
		t.Errorf("%q: Check: %v", text, err)
	}
}

func TestP403Functions(t *testing.T) {
	expectNodes(t, "func f(){}", "Block@8", "Func@0 where5 close9 f #0")
	expectNodes(t, "func  f ( ) bool { }", "Block@17", "Func@0 where6 close19 decl2 f #0")
	expectNodes(t, "func f(a int)int{}", "Param@7 where7 decl1 a", "Block@16", "Func@0 where5 close17 decl1 f #0 #1")
	expectNodes(t, "func f(a bool,b [] int)[]int{}", "Param@7 where7 decl2 a", "Param@14 where14 decl3 b", "Block@28", "Func@0 where5 close29 decl3 f #0 #1 #2")
	expectNodes(t, "func f(){} func f(){{}}", "Block@8", "Func@0 where5 close9 f #0", "Block@20", "Block@19 #2", "Func@11 where16 close22 f #3")
	x, nests, _, _ := parse.Parse(cut(t, "func f(){} func f(a int){{}} func g(){}"), 0)
	if !slices.Equal(x.Funcs, []int{1, 5, 7}) || !slices.Equal(nests, []int{1, 2, 1}) {
		t.Errorf("Funcs %v, nests %v", x.Funcs, nests)
	}
}

func TestP403Statements(t *testing.T) {
	expectNodes(t, "var x int;", "Var@9 where13 decl1 x")
	expectNodes(t, "var x bool=y;", "Name@20 where20 y", "Var@9 where13 decl2 x #0")
	expectNodes(t, "var x []int=nil;", "Nil@21", "Var@9 where13 decl3 x #0")
	expectNodes(t, "x=1;", "Num@11 value1", "Set@9 where9 x #0")
	expectNodes(t, "x[1]=2;", "Num@11 value1", "Num@14 value2", "SetAt@9 where9 x #0 #1")
	expectNodes(t, "g();", "Call@9 where9 g", "CallStmt@9 #0")
	expectNodes(t, "g(1,x);", "Num@11 value1", "Name@13 where13 x", "Call@9 where9 g #0 #1", "CallStmt@9 #2")
	expectNodes(t, "print(1);", "Num@15 value1", "Print@9 #0")
	expectNodes(t, "panic((1));", "Num@16 value1", "Panic@9 #0")
	expectNodes(t, "if a{}", "Name@12 where12 a", "Block@13", "If@9 #0 #1")
	expectNodes(t, "if a{}else{}", "Name@12 where12 a", "Block@13", "Block@19", "If@9 #0 #1 #2")
	expectNodes(t, "if a{}else if b{}else{}", "Name@12 where12 a", "Block@13", "Name@23 where23 b", "Block@24", "Block@30", "If@20 #2 #3 #4", "If@9 #0 #1 #5")
	expectNodes(t, "for{}", "Block@12", "For@9 #0")
	expectNodes(t, "for a{}", "Name@13 where13 a", "Block@14", "For@9 #0 #1")
	expectNodes(t, "return;", "Return@9")
	expectNodes(t, "return 1;", "Num@16 value1", "Return@9 #0")
	expectNodes(t, "break;", "Break@9")
	expectNodes(t, "continue;", "Continue@9")
	expectNodes(t, "{}", "Block@9")
	expectNodes(t, "{break;{continue;}return;}", "Break@10", "Continue@17", "Block@16 #1", "Return@27", "Block@9 #0 #2 #3")
}

func TestP403Expressions(t *testing.T) {
	expectNodes(t, "return 9223372036854775807;", "Num@16 value9223372036854775807", "Return@9 #0")
	expectNodes(t, "return 0;", "Num@16", "Return@9 #0")
	expectNodes(t, "return true;", "True@16", "Return@9 #0")
	expectNodes(t, "return false;", "False@16", "Return@9 #0")
	expectNodes(t, "return nil;", "Nil@16", "Return@9 #0")
	expectNodes(t, "return input();", "Input@16", "Return@9 #0")
	expectNodes(t, "return g(a,g(),b);", "Name@18 where18 a", "Call@20 where20 g", "Name@24 where24 b", "Call@16 where16 g #0 #1 #2", "Return@9 #3")
	expectNodes(t, "return len(a);", "Name@20 where20 a", "Len@16 #0", "Return@9 #1")
	expectNodes(t, "return make([]int,1);", "Num@27 value1", "Make@16 #0", "Return@9 #1")
	expectNodes(t, "return a[1][b[2]];", "Name@16 where16 a", "Num@18 value1", "Index@16 #0 #1", "Name@21 where21 b", "Num@23 value2", "Index@21 #3 #4", "Index@16 #2 #5", "Return@9 #6")
	expectNodes(t, "return (a)[1];", "Name@17 where17 a", "Num@20 value1", "Index@17 #0 #1", "Return@9 #2")
	expectNodes(t, "return -!^a;", "Name@19 where19 a", "Unary@18 op22 #0", "Unary@17 op21 #1", "Unary@16 op20 #2", "Return@9 #3")
	expectNodes(t, "return -a[1];", "Name@17 where17 a", "Num@19 value1", "Index@17 #0 #1", "Unary@16 op20 #2", "Return@9 #3")
	expectNodes(t, "return (-a)[1];", "Name@18 where18 a", "Unary@17 op20 #0", "Num@21 value1", "Index@17 #1 #2", "Return@9 #3")
	expectNodes(t, "return -a*b;", "Name@17 where17 a", "Unary@16 op20 #0", "Name@19 where19 b", "Binary@16 where18 op3 #1 #2", "Return@9 #3")
	expectNodes(t, "return a-b-c;", "Name@16 where16 a", "Name@18 where18 b", "Binary@16 where17 op2 #0 #1", "Name@20 where20 c", "Binary@16 where19 op2 #2 #3", "Return@9 #4")
	expectNodes(t, "return a-(b-c);", "Name@16 where16 a", "Name@19 where19 b", "Name@21 where21 c", "Binary@19 where20 op2 #1 #2", "Binary@16 where17 op2 #0 #3", "Return@9 #4")
	expectNodes(t, "return (a+b)*c;", "Name@17 where17 a", "Name@19 where19 b", "Binary@17 where18 op1 #0 #1", "Name@22 where22 c", "Binary@17 where21 op3 #2 #3", "Return@9 #4")
	expectNodes(t, "return (a<b)==c;", "Name@17 where17 a", "Name@19 where19 b", "Binary@17 where18 op14 #0 #1", "Name@23 where23 c", "Binary@17 where21 op12 #2 #3", "Return@9 #4")
}

// joins are the signs between two values by their binding, the loosest first.
var joins = []string{"||", "&&", "== != < <= > >=", "+ - | ^", "* / % << >> & &^"}

// opOfSign goes by the order in which DOC.md lists the operators of api.
func opOfSign(sign string) int {
	return api.OpAdd + slices.Index(strings.Fields("+ - * / % & | ^ &^ << >> == != < <= > >= && ||"), sign)
}

// expectJoined asks how two signs bind, the left one first or the right one.
func expectJoined(t *testing.T, one, two string, leftFirst bool) {
	t.Helper()
	atOne := len("func f(){return a ")
	atB := atOne + len(one) + 1
	atTwo := atB + 2
	atC := atTwo + len(two) + 1
	name := func(s string, at int) string {
		return told(api.Node{Kind: api.NodeName, At: at, Where: at, Name: s})
	}
	binary := func(sign string, at, where, left, right int) string {
		return told(api.Node{Kind: api.NodeBinary, At: at, Where: where, Op: opOfSign(sign), Kids: []int{left, right}})
	}
	text := "return a " + one + " b " + two + " c;"
	if leftFirst {
		expectNodes(t, text, name("a", 16), name("b", atB), binary(one, 16, atOne, 0, 1), name("c", atC), binary(two, 16, atTwo, 2, 3), "Return@9 #4")
	} else {
		expectNodes(t, text, name("a", 16), name("b", atB), name("c", atC), binary(two, atB, atTwo, 1, 2), binary(one, 16, atOne, 0, 3), "Return@9 #4")
	}
}

func TestP403TwoSigns(t *testing.T) {
	for i, first := range joins {
		for j, second := range joins {
			for _, one := range strings.Fields(first) {
				for _, two := range strings.Fields(second) {
					if i == 2 && j == 2 { // comparisons don't chain
						text := "func f(){return a " + one + " b "
						expectTextFault(t, text+two+" c;}", len(text), api.ErrParseToken)
						continue
					}
					expectJoined(t, one, two, i >= j)
				}
			}
		}
	}
}

func TestP403Drawn(t *testing.T) {
	for seed := range int64(3000) {
		w := drawn(seed, 10+int(seed)%200)
		expectTree(t, "drawn "+strconv.FormatInt(seed, 10), w.tokens, w.tree, w.nests)
		if err := tree.Check(w.tree); err != api.OK {
			t.Fatalf("drawn %d: %v", seed, err)
		}
	}
}

// plain is a tree without places.
func plain(x api.Tree) api.Tree {
	c := clone(x)
	for i := range c.Nodes {
		c.Nodes[i].At, c.Nodes[i].Where, c.Nodes[i].Close = 0, 0, 0
	}
	return c
}

// expectPrinted is W11.
func expectPrinted(t *testing.T, x api.Tree) {
	t.Helper()
	text, err := tree.Print(x)
	if err != api.OK {
		t.Fatal(err)
	}
	again, _, _, err := parse.Parse(cut(t, string(text)), 0)
	if err != api.OK || !same(plain(again), plain(x)) {
		t.Fatalf("%q: %v: %v, want %v", text, err, again, x)
	}
	if second, _ := tree.Print(again); string(second) != string(text) {
		t.Fatalf("%q, and printed again %q", text, second)
	}
}

func TestP403Printed(t *testing.T) {
	x, _, _, _ := parse.Parse(cut(t, everyRule), 0)
	expectPrinted(t, x)
	for seed := range int64(500) {
		expectPrinted(t, drawn(seed, 150).tree)
	}
}

func expectNests(t *testing.T, text string, want ...int) {
	t.Helper()
	if _, nests, at, err := parse.Parse(cut(t, text), 0); err != api.OK || at != 0 || !slices.Equal(nests, want) {
		t.Errorf("%.200q: %v %d %v, want %v", text, nests, at, err, want)
	}
}

func TestP404Nesting(t *testing.T) {
	for text, want := range map[string]int{
		"": 1, "f();": 2, "x = -1;": 2, "{}": 2, "if a {}": 2, "if a {} else if b {}": 3, "x = f((a)) + -(-b);": 4, "x = a + b + c;": 1,
		"x = 1;": 1, "var x []int;": 1, "var x int = (1);": 2, "x[1] = 2;": 2, "x[y[0]] = 1;": 3, "x[1] = y[2];": 2, "x[(1)] = 2;": 3, "x[1] = (2);": 2,
		"f(1, (2), 3);": 3, "f(g(h()));": 4, "print(1);": 2, "print(-1);": 3, "panic((1));": 3, "print(1); print(2);": 2,
		"x = input();": 2, "x = len(a);": 2, "x = len(input());": 3, "x = make([]int, 1);": 2, "x = make([]int, len(a));": 3, "x = f();": 2, "x = a[1];": 2, "x = a[1][2];": 2, "x = a[b[1]];": 3,
		"x = ((1));": 3, "x = (1) + (2);": 2, "x = !!!a;": 4, "x = -a * -b;": 2, "x = -a[1];": 3, "x = (-a)[1];": 3, "x = -a + b[1];": 2, "x = -f(1) + (2);": 3, "x = -(a) * ((b));": 3,
		"if (a) {}": 2, "if -a {}": 2, "if --a {}": 3, "if a { x = (1); }": 3, "if a {} else {}": 2, "if a {} else { x = -1; }": 3,
		"if a {} else if b { x = -1; }": 4, "if a {} else if (b) {}": 3, "if a {} else if ((b)) {}": 4, "if a {} else if b {} else {}": 3, "if a {} else if b {} else if c {}": 4, "if a {} else if b {} if c {}": 3, "if a {} else if b {} x = (((1)));": 4,
		"for {}": 2, "for a {}": 2, "for ((a)) {}": 3, "for { {} }": 3, "{} {} {}": 2, "{ { } } x = 1;": 3, "return (1);": 2, "return; break; continue;": 1,
	} {
		expectNests(t, "func main() { "+text+" }", want)
		expectNests(t, "func f(a []int, b []int) []int { {{{{{{}}}}}} } func g(a int) { "+text+" } func h() {}", 7, want, 1)
	}
	expectNests(t, "")
}

// repeated is a text with parts repeated on both sides of its middle.
func repeated(n int, head, left, middle, right, tail string) string {
	return head + strings.Repeat(left, n) + middle + strings.Repeat(right, n) + tail
}

// deepTexts nest n deep and d more.
func deepTexts(n int) map[string]int {
	return map[string]int{
		repeated(n, "func f() { x = ", "(", "1", ")", "; }"):                                     n + 1,
		repeated(n, "func f() { x = ", "-", "1", "", "; }"):                                      n + 1,
		repeated(n, "func f() { x = ", "^(", "1", ")", "; }"):                                    2*n + 1,
		repeated(n, "func f() { x = ", "a[", "1", "]", "; }"):                                    n + 1,
		repeated(n, "func f() { x = ", "(a + ", "1", ")", "; }"):                                 n + 1,
		repeated(n, "func f() { x = ", "f(1, ", "1", ")", "; }"):                                 n + 1,
		repeated(n, "func f() { x = ", "len(", "1", ")", "; }"):                                  n + 1,
		repeated(n, "func f() { x = ", "make([]int, ", "1", ")", "; }"):                          n + 1,
		repeated(n, "func f() { x[", "x[", "1", "]", "] = 1; }"):                                 n + 2,
		repeated(n, "func f() ", "{", "", "}", ""):                                               n,
		repeated(n, "func f() {", "for a {", "", "}", "}"):                                       n + 1,
		repeated(n, "func f() {", "if a {} else {", "", "}", "}"):                                n + 1,
		repeated(n, "func f() {", "if a {} else ", "{}", "", "}"):                                n + 1,
		repeated(n, "func f() { x = 1", " + 1", "", "", "; }"):                                   1,
		repeated(n, "func f() { x = a", "[1]", "", "", "; }"):                                    2,
		repeated(n, "func f() { x = 1", " || 2 && 3 < 4 + 5 * 6", "", "", "; }"):                 1,
		repeated(n, "func f() {", "x = 1;", "", "", "}"):                                         1,
		repeated(n, "func f() { f(1", ", 1", "", "", "); }"):                                     2,
		repeated(n, "func f(a int", ", a []int", "", "", ") {}"):                                 1,
		repeated(n, "func f() {", "if a || -b {} else if (c) { for d {", "x = (1);", "} }", "}"): 3*n + 2,
	}
}

func TestP405Deep(t *testing.T) {
	defer debug.SetMaxStack(debug.SetMaxStack(1 << 18))
	for text, want := range deepTexts(7) {
		expectNests(t, text, want)
	}
	for text, want := range deepTexts(10000) {
		expectNests(t, text, want)
	}
	expectNests(t, repeated(1<<16-2, "func f() { x = ", "(", "1", ")", "; }"), 1<<16-1)
	const deep = 20000
	for _, left := range []string{"(", "-", "a[", "f(", "len(", "make([]int, ", "(a+", "a+("} {
		text := repeated(deep, "func f() { x = ", left, "", "", "")
		expectTextFault(t, text, len(text), api.ErrParseEnd)
		expectTextFault(t, text+";", len(text), api.ErrParseToken)
	}
	for _, left := range []string{"{", "for {", "if a {", "if a {} else ", "for a {"} {
		text := repeated(deep, "func f() {", left, "", "", "")
		expectTextFault(t, text, len(text), api.ErrParseEnd)
		expectTextFault(t, text+";", len(text), api.ErrParseToken)
	}
}

func TestP405HandedInStays(t *testing.T) {
	for _, text := range []string{everyRule, everyRule + "x", "func f() {", ""} {
		tokens := cut(t, text)
		room := append(slices.Clone(tokens), make([]api.Token, 9)...)
		for i := len(tokens); i < len(room); i++ {
			room[i] = api.Token{Kind: -7, At: i, Value: 3, Name: "room"}
		}
		before := slices.Clone(room)
		x, nests, _, _ := parse.Parse(room[:len(tokens)], 5)
		if !slices.Equal(room, before) {
			t.Errorf("%q: the tokens have changed", text)
		}
		kept, keptNests := clone(x), slices.Clone(nests)
		for i := range room {
			room[i] = api.Token{Kind: api.TokName, At: -1, Value: -1, Name: "later"}
		}
		if !same(x, kept) || !slices.Equal(nests, keptNests) {
			t.Errorf("%q: the answer hangs on the tokens", text)
		}
	}
}

// lists are all lists of ints of an answer.
func lists(x api.Tree, nests []int) [][]int {
	l := [][]int{x.Funcs, nests}
	for _, n := range x.Nodes {
		l = append(l, n.Kids)
	}
	return l
}

// marked fills lists, spare room included, each with a mark of its own, and tells whether they stay so.
func marked(l [][]int) bool {
	for i := range l {
		whole := l[i][:cap(l[i])]
		for j := range whole {
			whole[j] = i
		}
	}
	for i := range l {
		for _, mark := range l[i][:cap(l[i])] {
			if mark != i {
				return false
			}
		}
	}
	return true
}

func TestP405AnswersAreNewMemory(t *testing.T) {
	tokens := cut(t, everyRule)
	x, nests, _, _ := parse.Parse(tokens, 5)
	want, wantNests := clone(x), slices.Clone(nests)
	y, more, _, _ := parse.Parse(tokens, 5)
	if !marked(append(lists(x, nests), lists(y, more)...)) {
		t.Errorf("two lists share memory")
	}
	whole := x.Nodes[:cap(x.Nodes)]
	for i := range whole {
		whole[i] = api.Node{}
	}
	expectTree(t, "once more", tokens, want, wantNests)
}
