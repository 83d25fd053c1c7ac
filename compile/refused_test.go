package compile_test

import (
	"strings"
	"testing"

	"quern/api"
	"quern/compile"
)

// fault is a text, and where and why it is refused.
type fault struct {
	text     string
	at, what int
}

func holdFaults(t *testing.T, class int, list []fault) {
	t.Helper()
	for _, x := range list {
		refused(t, x.text, class, x.at, x.what)
	}
}

// long is a text with blanks behind it, of so many bytes.
func long(text string, length int) string { return text + strings.Repeat(" ", length-len(text)) }

func TestP2401Long(t *testing.T) {
	for _, text := range []string{"func main() {}", "", "$", "}", "func main() { x = 1; }", "func main() " + strings.Repeat("{", 201) + strings.Repeat("}", 201), strings.Repeat("\xff", 99)} {
		for _, length := range []int{api.MaxSource + 1, api.MaxSource + 2, 3 * api.MaxSource} {
			refused(t, long(text, length), api.ClassLong, api.MaxSource, 0)
		}
	}
	if p := compiled(t, long("func main() {}", api.MaxSource)); p.Nodes != 2 {
		t.Errorf("P2401: at the limit: %+v", p)
	}
	const end = api.MaxSource
	refused(t, long("func main() {", end), api.ClassSyntax, end, 41)
	refused(t, strings.Repeat(" ", end-1)+"$", api.ClassSyntax, end-1, 20)
	refused(t, strings.Repeat(" ", end-1)+"x", api.ClassSyntax, end-1, 40)
	refused(t, long("", end), api.ClassType, 0, 51)
	refused(t, long("func main() "+strings.Repeat("{", 201)+strings.Repeat("}", 201), end), api.ClassLimit, 0, 1)
}

func TestP2401Syntax(t *testing.T) {
	name := strings.Repeat("a", api.MaxName)
	compiled(t, "func main() { var "+name+" int; } // "+name+"a 012")
	holdFaults(t, api.ClassSyntax, []fault{
		// A token that can't follow.
		{"x", 0, 40}, {" \n}", 2, 40}, {"func if() {}", 5, 40}, {"func main() {} x", 15, 40}, {"func main() { x 1; }", 16, 40}, {"func main() { a < b < c; }", 16, 40}, {"func main() { x = a < b < c; }", 24, 40},
		{"func main() { else {} }", 14, 40}, {"func main() { /* */ }", 14, 40}, {"func main() { len(a); }", 14, 40}, {"func main() {} // no\n }", 22, 40},
		// The end, which can't follow: its place is the text's length, whatever stands ahead of it.
		{"func", 4, 41}, {"func main() { x = ", 18, 41}, {"func main() { x = 1", 19, 41}, {"func main() {  \t\n", 17, 41}, {"func main() { // }", 18, 41}, {"func main() { // \n", 18, 41}, {"func main", 9, 41},
		// What is no token.
		{"$", 0, 20}, {"func main() { x := 1; }", 16, 20}, {"func main() { x = '1'; }", 18, 20}, {"func main() {} \x00", 15, 20}, {"func main() {} // \xc3\xa9", 18, 20}, {"func \xc3\xa9", 5, 20}, {"func main() { x = 1.5; }", 19, 20},
		{"func main() { " + name + "a = 1; }", 14, 21}, {name + "a", 0, 21}, {"func " + name + "a", 5, 21},
		{"func main() { x = 012; }", 18, 22}, {"00", 0, 22}, {"func main() { print(9223372036854775808); }", 20, 22}, {"func main() {} 99999999999999999999", 15, 22},
		// What is no token, where the text can't end either: that is no matter.
		{"func main() { $", 14, 20}, {"func main() { x = $", 18, 20}, {"func main() { 012", 14, 22}, {"func main( // \x7f", 14, 20}, {"func main() { x = 1 " + name + "a", 20, 21},
		// A token that can't follow ahead of what is no token.
		{"func main() } $", 12, 40}, {"x $", 0, 40}, {"func main() { x = 1 } $", 20, 40}, {"func main() { print 1.5; }", 20, 40}, {"} 012", 0, 40}, {"func func " + name + "a", 5, 40}, {"func main() {}} // \xff", 14, 40},
		// The second one behind the first is no matter.
		{"$ }", 0, 20}, {"func main() { $ } }", 14, 20}, {"func main() {} $ x", 15, 20}, {"012 $", 0, 22}, {"$ 012", 0, 20}, {name + "a $ 012 }", 0, 21}, {"} x func", 0, 40},
		// Types and limits are asked only where the text is a program's.
		{"func main() { x = 1; print(y) }", 30, 40}, {"func f() {} func f() {", 22, 41}, {"func f(a int, a int) {} $", 24, 20}, {"func main() " + strings.Repeat("{", 1000), 1012, 41}, {"func main() " + strings.Repeat("{", 1000) + "$", 1012, 20},
		{"func main() { print(" + strings.Repeat("-", 1000) + "); }", 1020, 40}, {"func f(" + strings.Repeat("a int, ", 9) + ") {}", 70, 40},
	})
}

func TestP2401Type(t *testing.T) {
	holdFaults(t, api.ClassType, []fault{
		{"func f() {} func f() {} func main() {}", 17, 50}, {"func main() { var a int; var a bool; }", 29, 50}, {"func main() {} func main() {}", 20, 50},
		{"", 0, 51}, {"// nothing", 0, 51}, {"func f() {}", 0, 51}, {"func main(a int) {}", 5, 51}, {" func main() int { return 1; }", 6, 51},
		{"func main() { x = 1; }", 14, 52}, {"func main() { var x int = x; }", 26, 52}, {"func main() { f(); }", 14, 52},
		{"func main() { main = 1; }", 14, 53}, {"func main() { var a int; a(); }", 25, 53},
		{"func main() { print(1 + true); }", 24, 54}, {"func main() { if 1 {} }", 17, 54}, {"func main() { print(nil == nil); }", 20, 54},
		{"func f(a int) {} func main() { f(); }", 31, 55}, {"func main() { main(1, 2); }", 14, 55},
		{"func main() { print(main()); }", 20, 56}, {"func f() {} func main() { var a int = f(); }", 38, 56},
		{"func main() { return 1; }", 14, 57}, {"func f() int { return; } func main() {}", 15, 57},
		{"func main() { break; }", 14, 58}, {"func main() { for {} continue; }", 21, 58},
		{"func f() int { } func main() {}", 15, 59}, {"func main() {} func f() int { for { break; } }", 45, 59},
		// Of several the least place; what is never built counts, too.
		{"func main() { return; print(x); y = 1; }", 28, 52}, {"func f() int { } func main() { x = 1; }", 15, 59}, {"func f() { f = 1; } func f() {}", 0, 51},
		// A text that is no program is not refused by a limit.
		{"func main() { " + strings.Repeat("{", 300) + strings.Repeat("}", 300) + " x = 1; }", 615, 52},
		{"func f" + params(9) + " {} func main() { f(); }", 24 + len(params(9)), 55},
		{"func f() { " + strings.Repeat("if true {} ", 600) + "} func g() {}", 0, 51},
		{"func f() { " + strings.Repeat("print(1);", 40000) + "} func main() { break; }", 360011 + 16, 58},
	})
}

// params is a list of so many parameters, int by int.
func params(n int) string {
	var names []string
	for i := range n {
		names = append(names, "p"+string(rune('a'+i))+" int")
	}
	return "(" + strings.Join(names, ", ") + ")"
}

// nested are bodies of functions that nest so deep, by each thing that counts.
func nested(deep int) []string {
	n := deep - 1 // the function's own block is one
	times := strings.Repeat
	return []string{
		times("{", n) + times("}", n),
		"print(" + times("(", n-1) + "1" + times(")", n-1) + ");",
		"print(" + times("-", n-1) + "1);",
		"print(" + times("!", n-1) + "true);",
		"if true {} " + times("else if true {} ", n-1),
		"if true {} " + times("else if true {} ", n-2) + "else { {} }",
		"var a []int; print(" + times("a[", n-1) + "0" + times("]", n-1) + ");",
		"var a []int; a[" + times("len(make([]int, ", (n-1)/2) + times("-", (n-1)%2) + "1" + times("))", (n-1)/2) + "] = 1;",
		"print(" + times("h(", n-1) + "1" + times(")", n-1) + ");",
		"panic(" + times("^(", n/2-1) + times("-", (n+1)%2) + "input()" + times(")", n/2-1) + ");",
		times("for {", n/2) + times("{", n%2) + times("{", n/2) + times("}", n),
		times("if true { } else { ", n) + times("}", n),
		"return; " + times("{", n) + times("}", n),
	}
}

// TestP2401Nest: at the limit all is well; one past it is refused, at the place of the function.
func TestP2401Nest(t *testing.T) {
	const ahead = " // some\n\tfunc h(a int) int { return a; } "
	for _, body := range nested(api.MaxNest) {
		compiled(t, ahead+"func main() { "+body+" }")
	}
	for _, deep := range []int{api.MaxNest + 1, api.MaxNest + 2, 20 * api.MaxNest} {
		for _, body := range nested(deep) {
			refused(t, ahead+"func main() { "+body+" }", api.ClassLimit, len(ahead), api.LimitNest)
			refused(t, ahead+"func main() {}\nfunc f() { "+body+" } func g() {}", api.ClassLimit, len(ahead)+15, api.LimitNest)
		}
	}
}

func TestP2401Params(t *testing.T) {
	for n := range 9 {
		if p := compiled(t, "func main() {} func f"+params(n)+" {}"); p.Code.Funcs[1].Params != n {
			t.Errorf("P2402: %+v", p.Code.Funcs[1])
		}
	}
	for _, n := range []int{9, 10, 26} {
		refused(t, "func main() {} func f"+params(n)+" {}", api.ClassLimit, 15, api.LimitParams)
		refused(t, "  func f"+params(n)+" {} func main() {}", api.ClassLimit, 2, api.LimitParams)
	}
}

func TestP2401Blocks(t *testing.T) {
	for _, each := range []struct {
		text   string
		blocks int
	}{{"if b {}", 2}, {"for b {}", 3}, {"b = b && b;", 2}, {"if b || b { return; } else {}", 5}} {
		times := (api.MaxBlocks - 1) / each.blocks
		most := 1 + times*each.blocks
		body := "func f(b bool) { " + strings.Repeat(each.text, times) + strings.Repeat("{ ", 3) + strings.Repeat("if b {}", (api.MaxBlocks-most)/2) + "}}}} "
		most += (api.MaxBlocks - most) / 2 * 2
		if p := compiled(t, body+"func main() {}"); p.Reports[0].Blocks != most {
			t.Errorf("P2402: %s: %d blocks, want %d", each.text, p.Reports[0].Blocks, most)
		}
		refused(t, "func main() {} "+strings.Replace(body, "{", "{ for b {} ", 1), api.ClassLimit, 15, api.LimitBlocks)
	}
	full := "func f(b bool) { for b {} " + strings.Repeat("if b {}", 510) // 1 and 3 and 1020
	if p := compiled(t, full+"} func main() {}"); p.Reports[0].Blocks != api.MaxBlocks {
		t.Errorf("P2402: %d blocks", p.Reports[0].Blocks)
	}
	refused(t, full+"b = b && b; } func main() {}", api.ClassLimit, 0, api.LimitBlocks)
}

func valued(name string, count int) string { return "func " + name + "() { " + counting(count) + "} " }

// counting are statements that count so many values (P1110), most of them by Phis that are taken away.
func counting(count int) string {
	const ways, variables = 300, 70
	const many = variables + 1 + 3*(ways-1) + 3*ways*variables + variables
	if count < many {
		return strings.Repeat("none();", count)
	}
	var b strings.Builder
	names := make([]string, variables)
	for i := range names {
		names[i] = "v" + string(rune('a'+i/10)) + string(rune('0'+i%10))
		b.WriteString("var " + names[i] + " int = input();")
	}
	b.WriteString("var b bool;" + strings.Repeat("if b {}", ways))
	for _, v := range names {
		b.WriteString("print(" + v + ");")
	}
	return b.String() + strings.Repeat("none();", count-many)
}

const none = "func none() {} "

func TestP2401Values(t *testing.T) {
	for _, body := range []string{valued("f", api.MaxValues), "func f() { " + strings.Repeat("none();", api.MaxValues) + "} ", "func f(a int) { " + strings.Repeat("none();", api.MaxValues-1) + "} "} {
		compiled(t, none+body+"func main() {}")
		refused(t, none+strings.Replace(body, "{", "{ none(); ", 1)+"func main() {}", api.ClassLimit, len(none), api.LimitValues)
	}
	refused(t, none+valued("f", 3*api.MaxValues)+"func main() {}", api.ClassLimit, len(none), api.LimitValues)
	refused(t, none+"func main() { print(1"+strings.Repeat("+1", api.MaxValues/2)+"); }", api.ClassLimit, len(none), api.LimitValues)
}

// full are 16 functions whose counts are at their limit: 16 are left to the program.
func full() string {
	var b strings.Builder
	for i := range 16 {
		b.WriteString(valued("f"+string(rune('a'+i)), api.MaxValues))
	}
	return b.String()
}

func TestP2401Program(t *testing.T) {
	all := none + full()
	const left = api.MaxProgram - 16*api.MaxValues
	p := compiled(t, all+valued("main", left))
	if len(p.Reports) != 18 || p.Reports[16].Values != 65535-70*300*3-3*299 {
		t.Errorf("P2402: %d reports, %+v", len(p.Reports), p.Reports[16])
	}
	compiled(t, all+valued("main", left)+valued("last", 0))
	at := len(all)
	refused(t, all+valued("main", left+1), api.ClassLimit, at, api.LimitProgram)
	refused(t, all+valued("main", left)+valued("last", 1), api.ClassLimit, at+len(valued("main", left)), api.LimitProgram)
	refused(t, "func main() {} "+valued("g", left+1)+all, api.ClassLimit, 15+len(valued("g", left+1))+len(all)-len(valued("fp", api.MaxValues)), api.LimitProgram)
	// Of one function each other limit counts ahead of the program's.
	for _, x := range []struct {
		text string
		what int
	}{
		{"func last" + params(9) + " { " + strings.Repeat("none();", 17) + "} ", api.LimitParams},
		{"func last() { " + strings.Repeat("if true {} ", 512) + "} ", api.LimitBlocks},
		{valued("last", api.MaxValues+1), api.LimitValues},
		{"func last() { " + nested(api.MaxNest + 1)[0] + strings.Repeat("none();", 17) + "} ", api.LimitNest},
		{"func last() { " + nested(api.MaxNest + 1)[0] + "} " + valued("more", 17), api.LimitNest},
	} {
		refused(t, all+"func main() {} "+x.text, api.ClassLimit, at+15, x.what)
	}
}

// broken are functions that pass one limit or some: what is told of each one is the first of these.
func broken() []struct {
	head, body string
	what       int
} {
	deep, blocks, values := nested(api.MaxNest + 1)[0], strings.Repeat("if true {}", 512), counting(api.MaxValues+1)
	return []struct {
		head, body string
		what       int
	}{
		{"()", deep, api.LimitNest},
		{params(9), "", api.LimitParams},
		{"()", blocks, api.LimitBlocks},
		{"()", values, api.LimitValues},
		{params(9), deep, api.LimitNest},
		{"()", deep + blocks, api.LimitNest},
		{"()", values + deep, api.LimitNest},
		{params(9), blocks + values, api.LimitParams},
		{"()", values + blocks, api.LimitBlocks},
		{params(9), values + blocks + deep, api.LimitNest},
	}
}

// TestP2401First: of several functions that pass limits the first one in the text counts, whatever limits these are.
func TestP2401First(t *testing.T) {
	const ahead = none + "func main() { none(); }\n"
	for _, a := range broken() {
		first := "func a" + a.head + " { " + a.body + " } "
		refused(t, ahead+first, api.ClassLimit, len(ahead), a.what)
		refused(t, first+ahead, api.ClassLimit, 0, a.what)
		for _, b := range broken() {
			second := "func b" + b.head + " { " + b.body + " } "
			refused(t, ahead+first+"func good() {} "+second, api.ClassLimit, len(ahead), a.what)
		}
	}
}

// TestP2401Classes: of several classes the first one counts, wherever in the text each fault is.
func TestP2401Classes(t *testing.T) {
	limit, wrong, torn := "func a() { "+nested(api.MaxNest + 1)[0]+" } ", "func b() { x = 1; } ", "func c() { x = ; } "
	const good = "func main() {} "
	place := func(text, of string) int { return strings.Index(text, of) }
	for _, order := range [][]string{{limit, wrong, torn}, {limit, torn, wrong}, {wrong, limit, torn}, {wrong, torn, limit}, {torn, limit, wrong}, {torn, wrong, limit}} {
		text := good + strings.Join(order, "")
		refused(t, long(text, api.MaxSource+1), api.ClassLong, api.MaxSource, 0)
		refused(t, text, api.ClassSyntax, place(text, torn)+15, 40)
		text = strings.Replace(text, torn, "", 1)
		refused(t, text, api.ClassType, place(text, wrong)+11, 52)
		text = strings.Replace(text, wrong, "", 1)
		refused(t, text, api.ClassLimit, place(text, limit), api.LimitNest)
		compiled(t, strings.Replace(text, limit, "", 1))
	}
}

// TestNil: nil is an empty text.
func TestNil(t *testing.T) {
	if p, f := compile.Compile(nil); f != (api.Fault{Class: api.ClassType, What: 51}) || !nothing(p) {
		t.Errorf("DOC.md, 3: %+v %+v", p, f)
	}
}
