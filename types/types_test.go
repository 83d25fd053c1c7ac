package types_test

import (
	"math"
	"math/rand"
	"reflect"
	"runtime/debug"
	"slices"
	"strconv"
	"strings"
	"testing"

	"quern/api"
	"quern/tree"
	"quern/types"
)

// expect asks for an answer; with an error for nothing beside it.
func expect(t *testing.T, what string, x api.Tree, at int, err api.Errno) api.Tree {
	t.Helper()
	typed, gotAt, gotErr := types.Types(x)
	if gotAt != at || gotErr != err {
		t.Errorf("%.300s: %d %v, want %d %v", what, gotAt, gotErr, at, err)
	}
	if gotErr != api.OK && (len(typed.Nodes) > 0 || len(typed.Funcs) > 0) {
		t.Errorf("%.300s: %.300v beside an error", what, typed)
	}
	return typed
}

// expectText asks for the error at the place that @ marks in the text; OK, if nothing is marked.
func expectText(t *testing.T, err api.Errno, texts ...string) {
	t.Helper()
	for _, text := range texts {
		at := max(strings.Index(text, "@"), 0)
		if strings.Contains(text, "@") == (err == api.OK) {
			t.Errorf("%.300q: a mark is wanted beside an error alone", text)
		}
		clean := strings.Replace(text, "@", "", 1)
		expect(t, clean, parsed(clean), at, err)
	}
}

// inMain asks the like of statements in main, with functions and variables beside them.
func inMain(t *testing.T, err api.Errno, statements ...string) {
	t.Helper()
	for _, s := range statements {
		expectText(t, err, helpers+"func main() { var i int; var b bool; var l []int; "+s+" }")
	}
}

const helpers = `func nothing() {} func number(p int) int { return p; } func truth(p bool) bool { return p; } func list(p []int) []int { return p; }
func three(p int, q bool, r []int) int { return p; } func shown(p int) {}
`

// clone copies a tree; its lists have spare room with marks in it.
func clone(x api.Tree) api.Tree {
	c := api.Tree{Nodes: make([]api.Node, len(x.Nodes), len(x.Nodes)+2), Funcs: roomy(x.Funcs)}
	copy(c.Nodes, x.Nodes)
	for i := range c.Nodes {
		c.Nodes[i].Kids = roomy(c.Nodes[i].Kids)
	}
	spare := c.Nodes[len(c.Nodes):cap(c.Nodes)]
	for i := range spare {
		spare[i] = api.Node{Kind: -7, Name: "spare"}
	}
	return c
}

func roomy(l []int) []int {
	c := append(slices.Clone(l), -77, -78, -79)
	return c[:len(l)]
}

// wholly has what stands in the spare room too.
func wholly(x api.Tree) api.Tree {
	w := api.Tree{Nodes: slices.Clone(x.Nodes[:cap(x.Nodes)]), Funcs: slices.Clone(x.Funcs[:cap(x.Funcs)])}
	for i := range w.Nodes {
		kids := w.Nodes[i].Kids
		w.Nodes[i].Kids = slices.Clone(kids[:cap(kids)])
	}
	return w
}

func same(a, b api.Tree) bool {
	if !slices.Equal(a.Funcs, b.Funcs) || len(a.Nodes) != len(b.Nodes) {
		return false
	}
	for i := range a.Nodes {
		m, n := a.Nodes[i], b.Nodes[i]
		if !slices.Equal(m.Kids, n.Kids) {
			return false
		}
		m.Kids, n.Kids = nil, nil
		if !reflect.DeepEqual(m, n) {
			return false
		}
	}
	return true
}

func TestP501Variables(t *testing.T) {
	inMain(t, api.OK,
		"i = 1; b = true; l = nil; l[0] = i; print(i); print(b); print(l[0]);",
		"var x int = i; print(x);",
		"{ i = 1; { i = 2; } }",
		"if b { i = 1; } else if b { i = 2; } else { i = 3; }",
		"for b { i = 1; } for { i = 1; }",
		"var x int; { x = 1; } x = 2;",
		"{ var x int; { x = 1; } x = 2; } { var x bool; x = true; }",
		"{ var i bool; i = true; { var i []int; i = nil; } i = false; } i = 1;",
		"{ i = 1; var i bool; i = true; }",
		"{ var i bool = i == 1; i = true; }",
		"{ var l int = l[0]; l = 1; }",
		"if b { var b int; b = 1; } else { b = true; }",
		"if b { var i bool; i = b; } else if i == 1 { var i []int; i = nil; } else { i = 1; }",
		"for b { var b int; b = 1; } b = true;",
	)
	inMain(t, api.ErrUnknown,
		"@x = 1;", "@x[0] = 1;", "print(@x);", "i = @x;", "l[@x] = 1;", "l[0] = @x;", "l = @X;", "print(@I);", "print(@i_);",
		"@x = 1; var x int;", "var x int = @x;", "var x int = -(1 + @x);", "var x []int = list(@x);",
		"{ var x int; } @x = 1;", "{ @x = 1; var x int; }", "if b { var x int; } else { @x = 1; }", "if b { var x int; } else if @x == 1 {}",
		"for @x { var x bool; }", "for { var x int; } @x = 1;", "{ { var x int; } { @x = 1; } }", "{ { var x int; } @x = 1; }",
		"print(@p);", "print(@q);",
	)
	expectText(t, api.OK,
		"func f(a int, b bool) { a = 1; { b = true; { a = 2; } } } func main() {}",
		"func f(a int) { { var a bool = a == 1; a = true; } a = 1; } func main() {}",
		"func f(a int) {} func g(a bool) { a = true; } func main() { var a []int; a = nil; }",
		"func f(main int) { main = 1; } func main() {}",
	)
	expectText(t, api.ErrUnknown,
		"func f(a int) {} func main() { @a = 1; }",
		"func f() { var a int; } func main() { @a = 1; }",
		"func f() { @a = 1; } func main() { var a int; }",
		"func f() { @a = 1; } func g(a int) {} func main() { var a int; }",
	)
}

func TestP501Functions(t *testing.T) {
	expectText(t, api.OK,
		"func main() { f(); { f(); } } func f() { main(); f(); }",
		"func f() int { return g(); } func g() int { return f(); } func main() { print(f()); }",
		"func f() int { var f int = f(); { f = 2; } return f; } func main() {}",
		"func f() { f(); { var f int; f = 1; } f(); var f bool; f = true; } func main() {}",
		"func f(f int) int { return f; } func main() { print(f(1)); var g int; }",
		"func main() { { var main int; main = 1; } main(); }",
	)
	expectText(t, api.ErrKind,
		"func f() { var f int; @f(); } func main() {}",
		"func f(f int) { @f(1); } func main() {}",
		"func f(f int) { { { @f(1); } } } func main() {}",
		"func f(a int) { var f int; print(@f(1)); } func main() {}",
		"func f() int { { var f int; } return @f; } func main() {}",
		"func main() { var main int; @main(); }",
		"func main() { @f = 1; } func f() {}",
	)
	expectText(t, api.ErrUnknown,
		"func main() { @g(); }", "func main() { print(@g()); }", "func main() { print(@g(1, true)); }", "func main() { { @Main(); } }",
		"func f(g int) {} func main() { @g(); }",
	)
}

// TestP501Twice has names that stand more than once in one scope: they mean the first one.
func TestP501Twice(t *testing.T) {
	last := func(text string, at int, err api.Errno) {
		t.Helper()
		x := parsed(text)
		for i := range x.Nodes { // what is told of names twice comes last
			if n := &x.Nodes[i]; n.Kind == api.NodeFunc || n.Kind == api.NodeParam || n.Kind == api.NodeVar {
				n.Where = 1000
			}
		}
		expect(t, text, x, at, err)
	}
	last("func main() { var x int; var x bool; x = 1; }", 1000, api.ErrTwice)
	last("func main() { var x int; var x bool; x = true; }", 41, api.ErrType)
	last("func main() { var x int; var x bool = x == 1; }", 1000, api.ErrTwice)
	last("func f(x int, x bool) { x = 1; } func main() {}", 1000, api.ErrTwice)
	last("func f(x int, x bool) { x = true; } func main() {}", 28, api.ErrType)
	last("func f(x int) { var x bool; x = true; } func main() {}", 32, api.ErrType)
	last("func f(x int) { var x bool; x = 1; } func main() {}", 1000, api.ErrTwice)
	last("func main() { f(1); } func f(a int) {} func f(b bool) {}", 1000, api.ErrTwice)
	last("func main() { f(true); } func f(a int) {} func f(b bool) {}", 16, api.ErrType)
	last("func main() { print(f()); } func f() int { return 1; } func f() {}", 1000, api.ErrTwice)
	last("func main() { print(f()); } func f() {} func f() int { return 1; }", 20, api.ErrResult)
	last("func main(a int) {} func main() {}", 1000, api.ErrTwice)
	last("func main() {} func main(a int) {}", 1000, api.ErrTwice)
	last("func main() { { var x int; } var x bool; var x []int; { var x int; x = 1; } x = 1; }", 80, api.ErrType)
}

// values are expressions with their types, as P502 has them.
var values = []struct{ text, typ string }{
	{"1", "int"}, {"0", "int"}, {"9223372036854775807", "int"}, {"input()", "int"}, {"len(l)", "int"}, {"l[0]", "int"}, {"(1)", "int"}, {"i", "int"}, {"number(1)", "int"},
	{"three(1, true, l)", "int"}, {"-1", "int"}, {"^1", "int"}, {"--i", "int"},
	{"true", "bool"}, {"false", "bool"}, {"b", "bool"}, {"truth(b)", "bool"}, {"!b", "bool"}, {"!!true", "bool"},
	{"make([]int, 1)", "[]int"}, {"l", "[]int"}, {"list(l)", "[]int"}, {"list(nil)", "[]int"}, {"nil", "nil"},
	{"1 + 1", "int"}, {"1 - 1", "int"}, {"1 * 1", "int"}, {"1 / 1", "int"}, {"1 % 1", "int"}, {"1 & 1", "int"}, {"1 | 1", "int"}, {"1 ^ 1", "int"}, {"1 &^ 1", "int"}, {"1 << 1", "int"}, {"1 >> 1", "int"},
	{"1 == 1", "bool"}, {"1 != 1", "bool"}, {"b == b", "bool"}, {"l == nil", "bool"}, {"nil != l", "bool"}, {"1 < 1", "bool"}, {"1 <= 1", "bool"}, {"1 > 1", "bool"}, {"1 >= 1", "bool"},
	{"b && b", "bool"}, {"b || b", "bool"},
}

// typeNumber is the one that P505 gives.
func typeNumber(typ string) int {
	return map[string]int{"int": 1, "bool": 2, "[]int": 3, "nil": 3, "open": 0}[typ]
}

// TestP502Expressions asks for the type of each kind of expression, by its number and by where it fits.
func TestP502Expressions(t *testing.T) {
	for _, v := range values {
		for _, typ := range []string{"int", "bool", "[]int"} {
			if typ == v.typ || typ == "[]int" && v.typ == "nil" {
				inMain(t, api.OK, "var x "+typ+" = "+v.text+";")
			} else {
				inMain(t, api.ErrType, "var x "+typ+" = "+marked(v.text)+";")
			}
		}
		typ := v.typ
		if typ == "nil" {
			typ = "[]int"
		}
		text := helpers + "func main() { var i int; var b bool; var l []int; var x " + typ + " = " + v.text + "; }"
		x := expect(t, text, parsed(text), 0, api.OK)
		if n := len(x.Nodes); n < 4 || x.Nodes[n-4].Type != typeNumber(v.typ) {
			t.Errorf("%s: not of the type %s", v.text, v.typ)
		}
	}
}

// marked is an expression with its place marked; parentheses are no part of it.
func marked(text string) string {
	if inside, ok := strings.CutPrefix(text, "("); ok {
		return "(@" + inside
	}
	return "@" + text
}

// TestP502Whatever has expressions whose values don't fit: their types are what they are, and open ones are told nowhere.
func TestP502Whatever(t *testing.T) {
	for _, x := range []struct{ text, typ string }{
		{"true + nil", "int"}, {"nil << l", "int"}, {"1 && 2", "bool"}, {"nil == nil", "bool"}, {"l != l", "bool"}, {"true < false", "bool"},
		{"-true", "int"}, {"^l", "int"}, {"!1", "bool"}, {"len(1)", "int"}, {"len(nil)", "int"}, {"make([]int, b)", "[]int"}, {"1[true]", "int"},
		{"number(true)", "int"}, {"truth()", "bool"}, {"list(1, 2)", "[]int"},
		{"unknown", "open"}, {"unknown()", "open"}, {"number", "open"}, {"i(1)", "open"}, {"nothing()", "open"}, {"nothing(1)", "open"},
	} {
		for _, wanted := range []string{"int", "bool", "[]int"} {
			text := helpers + "func main() { var i int; var b bool; var l []int; var x " + wanted + " = " + x.text + "; }"
			tr := parsed(text)
			tr.Nodes[len(tr.Nodes)-4].At = -1 // the outermost expression's place is the least, the others come behind
			_, at, err := types.Types(tr)
			switch {
			case x.typ == "open" || x.typ == wanted:
				if at == -1 && err == api.ErrType || err == api.OK {
					t.Errorf("%s as %s: %d %v", x.text, wanted, at, err)
				}
			case at != -1 || err != api.ErrType:
				t.Errorf("%s as %s: %d %v, want -1 and ErrType", x.text, wanted, at, err)
			}
		}
	}
	for _, open := range []string{"@unknown", "@unknown()"} {
		inMain(t, api.ErrUnknown, openPlaces(open)...)
	}
	for _, open := range []string{"@nothing", "@number", "@i()", "@l(1, true)", "@main"} {
		inMain(t, api.ErrKind, openPlaces(open)...)
	}
	inMain(t, api.ErrResult, openPlaces("@nothing()")...)
	inMain(t, api.ErrResult, openPlaces("@shown(1)")...)
}

// openPlaces are statements with an expression in every place that wants something.
func openPlaces(e string) []string {
	var l []string
	for _, form := range []string{
		"var x int = %;", "var x bool = %;", "var x []int = %;", "i = %;", "b = %;", "l = %;", "l[%] = 1;", "l[0] = %;", "print(%);", "panic(%);", "if % {}", "for % {}",
		"print(len(%));", "l = make([]int, %);", "print((%)[0]);", "print(l[%]);", "print(-%);", "print(^%);", "print(!%);",
		"print(% + 1);", "print(1 >> %);", "print(% < 1);", "print(1 >= %);", "print(% && true);", "print(true || %);",
		"print(% == 1);", "print(1 == %);", "print(% != true);", "print(false != %);", "print(% == l);", "print(l != %);", "print(% == nil);", "print(nil != %);",
		"number(%);", "truth(%);", "list(%);", "three(%, true, l);", "three(1, %, l);", "three(1, true, %);",
	} {
		l = append(l, strings.Replace(form, "%", e, 1))
	}
	return l
}

// places are the forms of P503: what each wants, % the value.
var places = []struct{ form, wants string }{
	{"var x int = %;", "int"}, {"var x bool = %;", "bool"}, {"var x []int = %;", "[]int nil"},
	{"i = %;", "int"}, {"b = %;", "bool"}, {"l = %;", "[]int nil"},
	{"number(%);", "int"}, {"truth(%);", "bool"}, {"list(%);", "[]int nil"},
	{"three(%, true, l);", "int"}, {"three(1, %, l);", "bool"}, {"three(1, true, %);", "[]int nil"}, {"print(three(1, true, %));", "[]int nil"},
	{"l[%] = 1;", "int"}, {"l[0] = %;", "int"}, {"print(%);", "int bool"}, {"panic(%);", "int"},
	{"if % {}", "bool"}, {"for % {}", "bool"}, {"if b {} else if % {} else {}", "bool"}, {"for b { for % {} }", "bool"},
	{"print(len(%));", "[]int"}, {"l = make([]int, %);", "int"}, {"print((%)[0]);", "[]int"}, {"print(l[%]);", "int"},
	{"print(-(%));", "int"}, {"print(^(%));", "int"}, {"print(!(%));", "bool"},
	{"print((%) + 1);", "int"}, {"print(1 + (%));", "int"}, {"print((%) - 1);", "int"}, {"print(1 - (%));", "int"}, {"print((%) * 1);", "int"}, {"print(1 * (%));", "int"},
	{"print((%) / 1);", "int"}, {"print(1 / (%));", "int"}, {"print((%) % 1);", "int"}, {"print(1 % (!));", "int"}, {"print((%) & 1);", "int"}, {"print(1 & (%));", "int"},
	{"print((%) | 1);", "int"}, {"print(1 | (%));", "int"}, {"print((%) ^ 1);", "int"}, {"print(1 ^ (%));", "int"}, {"print((%) &^ 1);", "int"}, {"print(1 &^ (%));", "int"},
	{"print((%) << 1);", "int"}, {"print(1 << (%));", "int"}, {"print((%) >> 1);", "int"}, {"print(1 >> (%));", "int"},
	{"print((%) < 1);", "int"}, {"print(1 < (%));", "int"}, {"print((%) <= 1);", "int"}, {"print(1 <= (%));", "int"}, {"print((%) > 1);", "int"}, {"print(1 > (%));", "int"}, {"print((%) >= 1);", "int"}, {"print(1 >= (%));", "int"},
	{"print((%) && b);", "bool"}, {"print(b && (%));", "bool"}, {"print((%) || b);", "bool"}, {"print(b || (%));", "bool"},
	{"print(1 == (%));", "int"}, {"print(1 != (%));", "int"}, {"print(b == (%));", "bool"}, {"print(b != (%));", "bool"},
	{"print(nil == (%));", "[]int"}, {"print(nil != (%));", "[]int"}, {"print(l == (%));", "nil"}, {"print(l != (%));", "nil"},
}

// filled puts a value into a form; a form whose own sign is % has ! for the value.
func filled(form, value string) string {
	mark := "%"
	if strings.Contains(form, "(!)") && strings.Contains(form, "%") {
		mark = "!"
	}
	return strings.Replace(form, mark, value, 1)
}

// TestP503Fits puts every value of P502's list into every place.
func TestP503Fits(t *testing.T) {
	for _, p := range places {
		for _, v := range values {
			if slices.Contains(strings.Fields(p.wants), v.typ) {
				inMain(t, api.OK, filled(p.form, v.text))
				continue
			}
			form := filled(p.form, marked(v.text))
			if sign := p.wants == "[]int" && v.typ == "nil" || p.wants == "nil" && v.typ == "[]int"; sign && strings.Contains(form, "= (") {
				continue // the fault is the left value's: TestP504Equal
			}
			inMain(t, api.ErrType, form)
		}
	}
}

func TestP503Return(t *testing.T) {
	for _, v := range values {
		for _, typ := range []string{"int", "bool", "[]int"} {
			function := "func f(i int, b bool, l []int) " + typ + " { return %; } func main() {}\n" + helpers
			if typ == v.typ || typ == "[]int" && v.typ == "nil" {
				expectText(t, api.OK, strings.Replace(function, "%", v.text, 1))
			} else {
				expectText(t, api.ErrType, strings.Replace(function, "%", marked(v.text), 1))
			}
		}
	}
	expectText(t, api.OK, "func f() int { return g(); } func g() int { return 1; } func main() {}")
	expectText(t, api.ErrResult, "func f() int { return @g(); } func g() {} func main() {}")
	expectText(t, api.ErrUnknown, "func f() bool { return @x; } func main() {}")
}

func TestP504Twice(t *testing.T) {
	expectText(t, api.ErrTwice,
		"func main() {} func @main() {}", "func f() {} func main() {} func @f() {}", "func f() {} func f1() {} func @f(a int) int { return a; } func main() {} func f() {}",
		"func f(a int, @a int) {} func main() {}", "func f(a int, b int, @a bool) {} func main() {}", "func f(a int) { var @a int; } func main() {}", "func f(a int) { { } var @a bool; } func main() {}",
		"func main() { var x int; var @x int; }", "func main() { { var x int; var @x bool; } }", "func main() { for { var x int; var @x bool; } }", "func main() { var x int; if true { } else { } var @x int; }",
		"func main() { if true { var x int; var @x bool; } }", "func main() { if true {} else { var x int; var @x bool; } }", "func main() { var x int; { var x int; } var @x int; }",
		"func main() { var x int; var @x int = 1; var x int; }",
	)
	expectText(t, api.OK,
		"func f(a int) {} func g(a int) { { var a int; { var a int; } } { var a int; } } func main() {}",
		"func f(f int) { { var f int; } } func main() { var main int; }",
		"func main() { if true { var x int; } else if true { var x int; } else { var x int; } for { var x int; } var x int; }",
		"func main() { var x int; { var x int; } if true { var x int; } for { var x int; } }",
	)
}

func TestP504Main(t *testing.T) {
	expectText(t, api.ErrMain, "@", "@func f() {}", "@func f(main int) { main = 1; }", "@func Main() {} func mai() {} func main_() {}",
		"func @main(a int) {}", "func @main() int { return 1; }", "func @main(a int, b int) bool { return true; }", "func f() {} func @main(a []int) {} func g() {}")
	expectText(t, api.OK, "func main() {}", "func f() {} func main() {}", "func main() { main(); return; } func f() {}")
	// None: at 0, which is ahead of a place above it and behind one below it.
	x := parsed("func f() { x = 1; }")
	expect(t, "no main", x, 0, api.ErrMain)
	for i := range x.Nodes {
		x.Nodes[i].Where = 0
	}
	x.Nodes[1].Where = -1
	expect(t, "no main, a name below 0", x, -1, api.ErrUnknown)
	x.Nodes[1].Where = 0
	expect(t, "no main, a name at 0", x, 0, api.ErrMain)
	expect(t, "no nodes", api.Tree{}, 0, api.ErrMain)
	expect(t, "empty lists", api.Tree{Nodes: []api.Node{}, Funcs: []int{}}, 0, api.ErrMain)
}

func TestP504SetAt(t *testing.T) {
	inMain(t, api.OK, "l[0] = 1;", "l[i] = l[i];", "l[l[l[0]]] = -1;")
	inMain(t, api.ErrType, "@i[0] = 1;", "@b[0] = 1;", "l[@true] = 1;", "l[@l] = 1;", "l[@nil] = 1;", "l[0] = @true;", "l[0] = @l;", "l[0] = @nil;")
	inMain(t, api.ErrKind, "@nothing[0] = 1;", "@main[0] = true;")
	inMain(t, api.ErrUnknown, "@x[0] = 1;", "@x[true] = nil;")
	// Index and value want an int, whatever the name means.
	for _, name := range []string{"x", "nothing", "i", "l"} {
		for _, kids := range []string{"[true] = 1;", "[1] = nil;"} {
			text := helpers + "func main() { var i int; var l []int; " + name + kids + " }"
			x := parsed(text)
			for i := range x.Nodes {
				if n := &x.Nodes[i]; n.Kind == api.NodeTrue || n.Kind == api.NodeNil {
					n.At = -5
				}
			}
			expect(t, text, x, -5, api.ErrType)
		}
	}
}

func TestP504Equal(t *testing.T) {
	for _, sign := range []string{" == ", " != "} {
		inMain(t, api.OK, "b = 1"+sign+"1;", "b = b"+sign+"true;", "b = l"+sign+"nil;", "b = nil"+sign+"l;", "b = nil"+sign+"make([]int, 1);", "b = list(l)"+sign+"nil;")
		inMain(t, api.ErrType, "b = @l"+sign+"l;", "b = @nil"+sign+"nil;", "b = @l"+sign+"make([]int, 1);", "b = @list(l)"+sign+"l;",
			"b = 1"+sign+"@true;", "b = 1"+sign+"@l;", "b = 1"+sign+"@nil;", "b = b"+sign+"@1;", "b = b"+sign+"@l;", "b = b"+sign+"@nil;",
			"b = l"+sign+"@1;", "b = l"+sign+"@b;", "b = nil"+sign+"@1;", "b = nil"+sign+"@true;", "i = @1"+sign+"1;")
	}
}

func TestP504Count(t *testing.T) {
	inMain(t, api.OK, "nothing();", "number(1);", "three(1, true, nil);", "i = three(1, b, l);", "main();")
	inMain(t, api.ErrCount, "@nothing(1);", "@nothing(nil, nil);", "@number();", "@number(1, 1);", "i = @number();", "i = @three(1, true);", "i = @three(1, true, nil, 1);", "i = 1 + @three();", "@main(true);",
		"@number(1, nothing());", "@nothing(true + 1);", "@number(1, nil + true);")
	// Of arguments that are too many nothing is wanted; of the others all.
	x := parsed("func f(a int) {} func main() { f(1, true); f(true, 1); }")
	for i := range x.Nodes {
		if x.Nodes[i].Kind == api.NodeCall {
			x.Nodes[i].At = 1000
		}
	}
	expect(t, "arguments ahead of the count", x, 45, api.ErrType)
}

func TestP504Result(t *testing.T) {
	inMain(t, api.OK, "nothing();", "shown(1);", "number(1);", "list(nil);", "i = number(number(1));", "main();")
	inMain(t, api.ErrResult, "print(@nothing());", "i = @shown(1);", "var x int = @nothing();", "l[@nothing()] = 1;", "l[0] = @nothing();", "number(@nothing());", "print(number(@nothing()));", "print(@main());",
		"if @nothing() {}", "for @nothing() {}", "panic(@nothing());", "print(-@nothing());", "print(@nothing() == nothing());", "print(1 == @nothing());", "shown(@shown(1));")
	expectText(t, api.ErrResult, "func f() int { return @g(); } func g() {} func main() {}")
}

func TestP504Return(t *testing.T) {
	expectText(t, api.OK,
		"func f() int { return 1; } func main() { return; }", "func f() { return; } func g() bool { return true; } func h() { return; } func main() {}",
		"func f() int { if true { return 1; } return 2; } func main() { { return; } }")
	expectText(t, api.ErrReturn,
		"func main() { @return 1; }", "func f() int { @return; } func main() {}", "func f() { { if true { @return nil; } } } func main() {}", "func f() []int { { @return; } } func main() {}",
		"func f() int { return 1; } func g() { @return 1; } func main() {}", "func f() { return; } func g() int { @return; } func main() {}",
		"func main() { @return true + 1; }")
}

func TestP504Loop(t *testing.T) {
	for _, word := range []string{"break", "continue"} {
		inMain(t, api.OK, "for { "+word+"; }", "for b { "+word+"; }", "for { { if b { "+word+"; } else { "+word+"; } } }", "for { for { "+word+"; } "+word+"; }", "for { { } "+word+"; }")
		inMain(t, api.ErrLoop, "@"+word+";", "{ @"+word+"; }", "if b { @"+word+"; }", "if b {} else { @"+word+"; }", "for {} @"+word+";", "for { "+word+"; } @"+word+";", "for { for {} "+word+"; } { @"+word+"; }", "@"+word+"; for {}", "if b { @"+word+"; for {} }")
		expectText(t, api.ErrLoop, "func f() { for { "+word+"; } } func main() { @"+word+"; }", "func main() { @"+word+"; } func f() { for {} }")
	}
}

func TestP504Ends(t *testing.T) {
	for _, s := range []string{
		"return 1;", "panic(1);", "{ return 1; }", "{ { panic(1); } }", "if b { return 1; } else { return 2; }", "if b { panic(1); } else { { return 2; } }",
		"if b { return 1; } else if b { return 2; } else { panic(3); }", "for {}", "for { return 1; }", "for { for { break; } }", "for { for b { break; } continue; }", "for { print(1); continue; }",
		"for { if b { return 1; } }", "for b { break; } return 1;", "f(b); return 1;", "for { { for { if b { break; } } } }", "for { break; } for {}", "for b { break; } for {}", "{ for { break; } for {} }",
		"if b { for {} } else { for { for { break; } } }", "return 1; return 2;", "for { for { for { break; } break; } }",
	} {
		expectText(t, api.OK, "func f(b bool) int { "+s+" } func main() {}", "func main() {} func f(b bool) int { { "+s+" } }", "func f(b bool) int { if b { "+s+" } else { "+s+" } } func main() {}", "func f(b bool) int { if b { "+s+" } else if b { "+s+" } else { "+s+" } } func main() {}")
	}
	for _, s := range []string{
		"", "{ }", "f(b);", "print(1);", "var x int = 1;", "b = true;", "var x []int; x[0] = 1;", "return 1; {}", "return 1; f(b);", "panic(1); print(2);", "{ return 1; } {}", "{ return 1; {} }",
		"if b { return 1; }", "if b { return 1; } else { }", "if b { } else { return 1; }", "if b { return 1; } else if b { return 2; }", "if b { } else if b { return 2; } else { return 3; }", "if b { return 1; } else if b { } else { return 3; }",
		"for b {}", "for b { return 1; }", "for true { return 1; }", "for { break; }", "for { if b { break; } }", "for { return 1; break; }", "for { for { } break; }", "for { break; for { } }", "for { for { break; } break; }", "for { { { break; } } }",
		"for { if b {} else { break; } }", "for { if b {} else if b { break; } }", "for { return 1; } b = true;", "for { for { continue; } if b { break; } }", "for { continue; break; }", "for { for { break; } { break; } }",
	} {
		expectText(t, api.ErrEnds, "func f(b bool) int { "+s+" @} func main() {}", "func main() {} func f(b bool) int { { "+s+" } @}")
		expectText(t, api.OK, "func f(b bool) { "+strings.ReplaceAll(strings.ReplaceAll(strings.ReplaceAll(s, "return 1", "return"), "return 2", "return"), "return 3", "return")+" } func main() {}")
	}
	for _, typ := range []string{"int", "bool", "[]int"} {
		expectText(t, api.ErrEnds, "func f() "+typ+" { @} func main() {}")
	}
}

// TestP505Least has several faults: the one of the least place is told; of several there the first one of the list.
func TestP505Least(t *testing.T) {
	faults := []struct {
		text string
		err  api.Errno
	}{
		{"func @f() {}", api.ErrTwice}, {"func @main(a int) {}", api.ErrMain}, {"func u() { @x = 1; }", api.ErrUnknown}, {"func k(f int) { @f(); }", api.ErrKind},
		{"func t() { print(@nil); }", api.ErrType}, {"func c() { @f(1); }", api.ErrCount}, {"func r() { print(@f()); }", api.ErrResult}, {"func e() { @return 1; }", api.ErrReturn},
		{"func l() { @break; }", api.ErrLoop}, {"func s() int { @}", api.ErrEnds},
	}
	for i, a := range faults {
		for _, b := range faults[i+1:] {
			text := "func f() {} " + a.text + b.text
			if a.err != api.ErrMain && b.err != api.ErrMain {
				text += "func main() {}"
			}
			first, last := strings.Index(text, "@"), strings.LastIndex(text, "@")-1
			x := parsed(strings.ReplaceAll(text, "@", ""))
			expect(t, text, x, first, a.err)
			for k := range x.Nodes {
				n := &x.Nodes[k]
				n.At, n.Where, n.Close = -n.At, -n.Where, -n.Close
			}
			expect(t, text+", places below 0", x, -last, b.err)
			scatter(rand.New(rand.NewSource(1)), x, []int{1234})
			expect(t, text+", at one place", x, 1234, a.err)
		}
	}
}

func TestP505Tree(t *testing.T) {
	good := parsed("func main() { print(1 + 2); }")
	turned := func(what string, change func(x *api.Tree)) {
		t.Helper()
		x := clone(good)
		change(&x)
		if tree.Check(x) != api.ErrTree {
			t.Errorf("%s: a tree", what)
		}
		expect(t, what, x, 0, api.ErrTree)
	}
	turned("no Funcs", func(x *api.Tree) { x.Funcs = nil })
	turned("no nodes", func(x *api.Tree) { x.Nodes = nil })
	turned("a Func beyond", func(x *api.Tree) { x.Funcs[0] = 99 })
	turned("a kid of no number", func(x *api.Tree) { x.Nodes[2].Kids[0] = -1 })
	turned("kids exchanged", func(x *api.Tree) { slices.Reverse(x.Nodes[2].Kids) })
	turned("a kid too few", func(x *api.Tree) { x.Nodes[2].Kids = x.Nodes[2].Kids[:1] })
	turned("no kind", func(x *api.Tree) { x.Nodes[0].Kind = 15 })
	turned("no name", func(x *api.Tree) { x.Nodes[5].Name = "" })
	turned("no op", func(x *api.Tree) { x.Nodes[2].Op = api.OpNot })
	turned("the Type 4", func(x *api.Tree) { x.Nodes[0].Type = 4 })
	turned("a Type of a statement", func(x *api.Tree) { x.Nodes[3].Type = 1 })
	turned("a Block as a value", func(x *api.Tree) { x.Nodes[0].Kind = api.NodeBlock })
	turned("a fault as well", func(x *api.Tree) {
		x.Nodes[0].Kind, x.Nodes[0].Value, x.Nodes[5].Where, x.Nodes[1].Value = api.NodeNil, 0, -9, -1
	})
	turned("the block behind the function", func(x *api.Tree) { x.Nodes = append(x.Nodes, api.Node{Kind: api.NodeBlock}) })
	turned("a return behind the function", func(x *api.Tree) { x.Nodes = append(x.Nodes, api.Node{Kind: api.NodeReturn}) })
	expect(t, "as it is", good, 0, api.OK)
}

// TestP505Types has what stood in Type left aside, and all else as it was.
func TestP505Types(t *testing.T) {
	d := rand.New(rand.NewSource(505))
	for seed := range int64(300) {
		text := drawnText(seed, 60, 0)
		x := parsed(text)
		scatter(d, x, []int{math.MinInt, -1, 0, 1, 50, math.MaxInt})
		typed := expect(t, text, x, 0, api.OK)
		o := ask(x)
		for i, n := range x.Nodes {
			if n.Kind >= api.NodeNum {
				x.Nodes[i].Type = typeNumber(o.typeOf(i))
			}
		}
		if !same(typed, x) {
			t.Errorf("%s: %v, want %v", text, typed, x)
		}
		for i, n := range x.Nodes {
			if n.Kind >= api.NodeNum {
				x.Nodes[i].Type = d.Intn(4)
			}
		}
		if again := expect(t, text, x, 0, api.OK); !same(again, typed) {
			t.Errorf("%s: %v, with other types ahead %v", text, typed, again)
		}
	}
}

// TestP504Drawn holds drawn programs, right ones, wrong ones and turned ones, with places of their own or few of them, against the oracle.
func TestP504Drawn(t *testing.T) {
	d := rand.New(rand.NewSource(504))
	told := map[api.Errno]int{}
	for seed := range int64(4000) {
		wrong := []int{0, 0, 60, 20, 6}[seed%5]
		x := parsed(drawnText(seed, 20+int(seed%50), wrong))
		for round := range 4 {
			if round > 1 {
				for range 1 + d.Intn(3) {
					turn(d, x)
				}
			}
			if round > 0 && d.Intn(3) > 0 {
				scatter(d, x, [][]int{{-1, 0, 1}, {0}, {math.MinInt, math.MaxInt, 5}, d.Perm(len(x.Nodes))}[d.Intn(4)])
			}
			want, text := fault{}, string(printed(t, x))
			if l := ask(x).faults(); len(l) > 0 {
				want = l[0]
			}
			if round == 0 && wrong == 0 && want.err != api.OK {
				t.Fatalf("%s: the oracle tells %v of a right program", text, want)
			}
			expect(t, text, x, want.at, want.err)
			told[want.err]++
		}
		if t.Failed() {
			return
		}
	}
	for err := api.ErrTwice; err <= api.ErrEnds; err++ {
		if told[err] < 50 {
			t.Errorf("%v was told %d times: too few", err, told[err])
		}
	}
	if told[api.OK] < 3000 {
		t.Errorf("%d right ones: too few", told[api.OK])
	}
}

func printed(t *testing.T, x api.Tree) []byte {
	t.Helper()
	text, err := tree.Print(x)
	if err != api.OK {
		t.Fatalf("no tree: %v", x)
	}
	return text
}

func TestP506(t *testing.T) {
	d := rand.New(rand.NewSource(506))
	right, wrong := 0, 0
	for seed := range int64(1000) {
		x := parsed(drawnText(seed, 60, int(seed%3)*40))
		for range d.Intn(3) {
			turn(d, x)
		}
		text := string(printed(t, x))
		typed, _, err := types.Types(x)
		_, _, again := types.Types(parsed(text))
		if (err == api.OK) != (again == api.OK) {
			t.Errorf("%s: %v, its tree %v", text, again, err)
		}
		if err != api.OK {
			wrong++
			continue
		}
		right++
		if twice := expect(t, text, typed, 0, api.OK); !same(twice, typed) {
			t.Errorf("%s: %v, and again %v", text, typed, twice)
		}
		if got := string(printed(t, typed)); got != text {
			t.Errorf("%s: with its types %s", text, got)
		}
	}
	if right < 200 || wrong < 200 {
		t.Errorf("%d right, %d wrong: too few of one sort", right, wrong)
	}
}

// TestP507Deep has nests that calls could not follow on this stack.
func TestP507Deep(t *testing.T) {
	defer debug.SetMaxStack(debug.SetMaxStack(1 << 18))
	const n = 10000
	nest := func(left, inside, right string) string {
		return strings.Repeat(left, n) + inside + strings.Repeat(right, n)
	}
	for _, x := range []struct{ left, right, value, wrong string }{
		{"-", "", "1", "true"}, {"!", "", "true", "1"}, {"(-(", "))", "1", "nil"}, {"(1 + ", ")", "1", "nil"}, {"(", " + 1)", "1", "true"}, {"", " - 1", "1", "true"}, {"l[", "]", "1", "l"}, {"number(", ")", "1", "true"},
		{"len(make([]int, ", "))", "1", "nil"}, {"(true && ", ")", "true", "nil"}, {"(true == ", ")", "true", "l"}, {"three(1, true, make([]int, ", "))", "1", "b"},
	} {
		inMain(t, api.OK, "print("+nest(x.left, x.value, x.right)+");")
		inMain(t, api.ErrType, "print("+nest(x.left, "@"+x.wrong, x.right)+");")
	}
	inMain(t, api.OK, nest("{", "i = 1;", "}"), nest("if b {", "i = 1;", "}"), nest("for b {", "break;", "}"), nest("if b {} else {", "i = 1;", "}"), nest("if b {} else ", "{ i = 1; }", ""), nest("for {", "i = 1;", "}"))
	inMain(t, api.ErrUnknown, nest("{", "@x = 1;", "}"), nest("{", "", "}")+" @x = 1;", nest("{ var x int; ", "", "}")+" @x = 1;")
	inMain(t, api.ErrTwice, nest("{ var x int;", "var @x int;", "}"))
	inMain(t, api.ErrLoop, nest("for {", "continue;", "}")+"@continue;")
	expectText(t, api.OK,
		"func f() int {"+nest("{", "return 1;", "}")+"} func main() {}",
		"func f() int {"+nest("for {", "return 1;", "}")+"} func main() {}",
		"func f(b bool) int {"+nest("if b { return 1; } else ", "{ return 1; }", "")+"} func main() {}",
		"func f(b bool) int {"+nest("if b {", "return 1;", "} else { panic(1); }")+"} func main() {}")
	expectText(t, api.ErrEnds,
		"func f() int {"+nest("{", "", "}")+"@} func main() {}",
		"func f() int {"+nest("for {", "", "break; }")+"@} func main() {}",
		"func f(b bool) int {"+nest("if b { return 1; } else ", "{ }", "")+"@} func main() {}",
		"func f(b bool) int {"+nest("if b {", "", "} else { panic(1); }")+"@} func main() {}")
}

// TestP507Wide asks many names through many scopes: each use must not go through all of them.
func TestP507Wide(t *testing.T) {
	const n = 20000
	var b strings.Builder
	b.WriteString("func main() { var x int; ")
	for i := range n {
		b.WriteString("{ var v" + strconv.Itoa(i) + " int; ")
	}
	for i := range n {
		b.WriteString("x = v" + strconv.Itoa(i) + "; ")
	}
	expectText(t, api.OK, b.String()+strings.Repeat("}", n+1))
	expectText(t, api.ErrType, b.String()+"x = v0; x = @nil; "+strings.Repeat("}", n+1))
	expectText(t, api.ErrUnknown, b.String()+"} x = @v"+strconv.Itoa(n-1)+"; "+strings.Repeat("}", n))
}

func TestP507OfItsOwn(t *testing.T) {
	for seed := range int64(60) {
		x := clone(parsed(drawnText(seed, 40, int(seed%2)*30)))
		ahead := wholly(x)
		typed, at, err := types.Types(x)
		if !same(wholly(x), ahead) {
			t.Fatalf("changed: %v, was %v", wholly(x), ahead)
		}
		if err != api.OK {
			continue
		}
		again, atAgain, errAgain := types.Types(x)
		if at != atAgain || err != errAgain || !same(typed, again) {
			t.Errorf("%v %d %v, and again %v %d %v", typed, at, err, again, atAgain, errAgain)
		}
		markLists(t, typed)
		if !same(wholly(x), ahead) || !same(expect(t, "once more", x, 0, api.OK), again) {
			t.Fatalf("what was answered shares memory with what was handed in or is kept")
		}
	}
}

// markLists writes a number of its own into each list, up to its capacity: no two may share a place.
func markLists(t *testing.T, x api.Tree) {
	t.Helper()
	nodes := x.Nodes[:cap(x.Nodes)]
	lists := [][]int{x.Funcs[:cap(x.Funcs)]}
	for _, n := range nodes {
		lists = append(lists, n.Kids[:cap(n.Kids)])
	}
	for k, l := range lists {
		for i := range l {
			l[i] = k
		}
	}
	for k, l := range lists {
		for i := range l {
			if l[i] != k {
				t.Fatalf("list %d shares memory with list %d", k, l[i])
			}
		}
	}
	clear(nodes)
}

func TestExamples(t *testing.T) {
	expectText(t, api.ErrMain, "@", "@func f() {}", "func @main(a int) {}", "func @main() int { return 1; }")
	expectText(t, api.ErrUnknown, "func main() { @x = 1; var x int; }", "func main() { var x int = @x; }")
	expectText(t, api.OK, "func main() { var x int; { var x bool = x == 1; print(x); } }")
	expectText(t, api.ErrTwice, "func f(a int, @a bool) {} func main() {}")
	expectText(t, api.ErrKind, "func main() { var main int; @main(); }")
	expectText(t, api.ErrType, "func main() { print(1 + @true); }", "func main() { print(1 == @true); print(nil == nil); }", "func main() { print(@nil == nil); }", "func f(a []int) {} func main() { f(nil); f(make([]int, @true)); }")
	expectText(t, api.ErrResult, "func f() {} func main() { print(@f()); f(1); }")
	expectText(t, api.ErrReturn, "func main() { @return 1; break; }")
	expectText(t, api.ErrEnds, "func f() int { for { if true { break; } } @} func main() {}")
	expectText(t, api.OK, "func f() int { for { for { break; } } } func main() {}", "func f() int { if true { return 1; } else { panic(2); } } func main() {}")
}
