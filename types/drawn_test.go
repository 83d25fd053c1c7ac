package types_test

import (
	"math"
	"math/rand"
	"slices"
	"strconv"
	"strings"

	"quern/api"
	"quern/lex"
	"quern/parse"
)

type variable struct {
	name string
	typ  int
}

type function struct {
	name   string
	params []variable
	result int
}

// writer writes the text of a program that keeps the typing; where wrong is above 0, one thing of so many is done wrong.
type writer struct {
	*rand.Rand
	strings.Builder
	wrong  int
	left   int
	funcs  []function
	scopes [][]variable
	known  []variable // in the order in which they were declared, outer scopes first
	loops  int
	result int
}

func drawnText(seed int64, size, wrong int) string {
	w := &writer{Rand: rand.New(rand.NewSource(seed)), left: size, wrong: wrong}
	for i := range 1 + w.Intn(4) {
		f := function{name: w.fresh("f", i), result: w.Intn(4)}
		for k := range w.Intn(4) {
			f.params = append(f.params, variable{w.fresh("v", k), 1 + w.Intn(3)})
		}
		w.funcs = append(w.funcs, f)
	}
	main := function{name: "main"}
	if w.slip() {
		main.result = w.Intn(4)
	}
	w.funcs = slices.Insert(w.funcs, w.Intn(len(w.funcs)+1), main)
	for _, f := range w.funcs {
		w.function(f)
	}
	return w.String()
}

// slip tells whether to go wrong.
func (w *writer) slip() bool { return w.wrong > 0 && w.Intn(w.wrong) == 0 }

// fresh is a name with a number that is new where it is asked for; names of variables may be those of functions.
func (w *writer) fresh(letter string, number int) string {
	if w.slip() {
		number = w.Intn(3)
	}
	return letter + strconv.Itoa(number)
}

func (w *writer) put(parts ...string) {
	for _, p := range parts {
		w.WriteString(p)
	}
}

func typeText(typ int) string { return []string{"", "int", "bool", "[]int"}[typ] }

func (w *writer) function(f function) {
	w.put("func ", f.name, "(")
	w.scopes, w.known, w.result, w.loops = [][]variable{f.params}, slices.Clone(f.params), f.result, 0
	for i, p := range f.params {
		if i > 0 {
			w.put(", ")
		}
		w.put(p.name, " ", typeText(p.typ))
	}
	w.put(") ", typeText(f.result), " {")
	w.statements()
	if f.result != 0 && !w.slip() {
		w.ending(f.result)
	}
	w.put("}\n")
}

// ending writes a terminating statement.
func (w *writer) ending(result int) {
	w.left--
	form := w.Intn(7)
	if w.left < 0 {
		form = 0
	}
	switch form {
	case 0, 1:
		w.put("return ")
		w.value(result)
		w.put(";")
	case 2:
		w.put("panic(")
		w.value(api.TypeInt)
		w.put(");")
	case 3:
		w.block(func() { w.statements(); w.ending(result) })
	case 4:
		w.put("if ")
		w.value(api.TypeBool)
		w.block(func() { w.ending(result) })
		w.put(" else ")
		w.block(func() { w.statements(); w.ending(result) })
	case 5:
		w.put("if ")
		w.value(api.TypeBool)
		w.block(func() { w.ending(result) })
		w.put(" else if true ")
		w.block(func() { w.ending(result) })
		w.put(" else ")
		w.block(func() { w.ending(result) })
	case 6:
		loops := w.loops
		w.loops = math.MinInt / 2 // no break of its own
		w.put("for ")
		w.block(w.statements)
		w.loops = loops
	}
}

func (w *writer) block(inside func()) {
	w.put("{")
	w.scopes = append(w.scopes, nil)
	count := len(w.known)
	inside()
	w.known = w.known[:count]
	w.scopes = w.scopes[:len(w.scopes)-1]
	w.put("}")
}

func (w *writer) statements() {
	for w.left > 0 && w.Intn(4) > 0 {
		w.left--
		w.statement()
	}
}

// newName is one that the innermost scope doesn't have.
func (w *writer) newName() string {
	inner := w.scopes[len(w.scopes)-1]
	for {
		name := []string{"f", "v", "v", "v", "main"}[w.Intn(5)]
		if name != "main" {
			name += strconv.Itoa(w.Intn(4 + len(inner)))
		}
		if w.slip() || !slices.ContainsFunc(inner, func(v variable) bool { return v.name == name }) {
			return name
		}
	}
}

func (w *writer) declare() {
	v := variable{w.newName(), 1 + w.Intn(3)}
	w.put("var ", v.name, " ", typeText(v.typ))
	if w.Intn(2) == 0 {
		w.put(" = ")
		w.valueOrNil(v.typ)
	}
	w.put(";")
	w.known = append(w.known, v)
	w.scopes[len(w.scopes)-1] = append(w.scopes[len(w.scopes)-1], v)
}

// variable tells the name of a known variable of the type, if there is one.
func (w *writer) variable(typ int) (string, bool) {
	if w.slip() {
		return []string{"v0", "v1", "f0", "main", "nobody"}[w.Intn(5)], true
	}
	var fit []string
	for i, v := range w.known {
		hidden := slices.ContainsFunc(w.known[i+1:], func(u variable) bool { return u.name == v.name })
		if v.typ == typ && !hidden {
			fit = append(fit, v.name)
		}
	}
	if len(fit) == 0 {
		return "", false
	}
	return fit[w.Intn(len(fit))], true
}

func (w *writer) statement() {
	switch w.Intn(12) {
	case 0, 1, 2:
		w.declare()
	case 3:
		typ := 1 + w.Intn(3)
		if name, ok := w.variable(typ); ok {
			w.put(name, " = ")
			w.valueOrNil(typ)
			w.put(";")
		}
	case 4:
		if name, ok := w.variable(api.TypeInts); ok {
			w.put(name, "[")
			w.value(api.TypeInt)
			w.put("] = ")
			w.value(api.TypeInt)
			w.put(";")
		}
	case 5:
		if w.call(-1) {
			w.put(";")
		}
	case 6:
		w.put("print(")
		w.value(1 + w.Intn(2))
		w.put(");")
	case 7:
		w.put("panic(")
		w.value(api.TypeInt)
		w.put(");")
	case 8:
		w.branch()
	case 9:
		w.loop()
	case 10:
		w.jump()
	case 11:
		w.block(w.statements)
	}
}

func (w *writer) branch() {
	w.put("if ")
	w.value(api.TypeBool)
	w.block(w.statements)
	switch w.Intn(3) {
	case 0:
		w.put(" else ")
		w.block(w.statements)
	case 1:
		w.put(" else ")
		w.branch()
	}
}

func (w *writer) loop() {
	w.put("for ")
	if w.Intn(2) == 0 {
		w.value(api.TypeBool)
	}
	loops := w.loops
	w.loops = 1
	w.block(w.statements)
	w.loops = loops
}

func (w *writer) jump() {
	switch {
	case w.Intn(2) == 0 && w.loops != 0 || w.slip():
		if w.loops > 0 && w.Intn(2) == 0 || w.slip() {
			w.put("break;")
		} else {
			w.put("continue;")
		}
	case w.result == 0 != w.slip():
		w.put("return;")
	default:
		w.put("return ")
		w.valueOrNil(max(w.result, 1))
		w.put(";")
	}
}

// call writes a call of a function with that result (-1: any), if one is there and not hidden.
func (w *writer) call(result int) bool {
	var fit []function
	for _, f := range w.funcs {
		hidden := slices.ContainsFunc(w.known, func(v variable) bool { return v.name == f.name })
		if (result < 0 || f.result == result) && !hidden || w.slip() {
			fit = append(fit, f)
		}
	}
	if len(fit) == 0 {
		return false
	}
	f := fit[w.Intn(len(fit))]
	w.put(f.name, "(")
	for i, p := range f.params {
		if w.slip() {
			break
		}
		if i > 0 {
			w.put(", ")
		}
		w.valueOrNil(p.typ)
	}
	w.put(")")
	return true
}

func (w *writer) valueOrNil(typ int) {
	if typ == api.TypeInts && w.Intn(3) == 0 {
		w.put("nil")
		return
	}
	w.value(typ)
}

// value writes an expression of the type, in parentheses where it needs them.
func (w *writer) value(typ int) {
	w.left--
	if w.slip() {
		typ = 1 + w.Intn(4)
	}
	if name, ok := w.variable(typ); ok && w.Intn(3) == 0 {
		w.put(name)
		return
	}
	if w.left > 0 && w.Intn(4) == 0 && w.call(typ) {
		return
	}
	switch typ {
	case api.TypeInt:
		w.number()
	case api.TypeBool:
		w.truth()
	case api.TypeInts:
		w.put("make([]int, ")
		w.value(api.TypeInt)
		w.put(")")
	default:
		w.put("nil")
	}
}

func (w *writer) number() {
	form := w.Intn(7)
	if w.left < 0 {
		form = w.Intn(2)
	}
	switch form {
	case 0:
		w.put(strconv.Itoa(w.Intn(100)))
	case 1:
		w.put("input()")
	case 2:
		w.put("len(")
		w.value(api.TypeInts)
		w.put(")")
	case 3:
		w.value(api.TypeInts)
		w.put("[")
		w.value(api.TypeInt)
		w.put("]")
	case 4:
		w.put([]string{"-", "^"}[w.Intn(2)])
		w.value(api.TypeInt)
	default:
		w.two(api.TypeInt, "+", "-", "*", "/", "%", "&", "|", "^", "&^", "<<", ">>")
	}
}

func (w *writer) truth() {
	form := w.Intn(8)
	if w.left < 0 {
		form = w.Intn(2)
	}
	switch form {
	case 0:
		w.put("true")
	case 1:
		w.put("false")
	case 2:
		w.put("!")
		w.value(api.TypeBool)
	case 3:
		w.two(api.TypeInt, "<", "<=", ">", ">=")
	case 4:
		w.two(1+w.Intn(2), "==", "!=")
	case 5:
		w.put("(nil == ")
		w.value(api.TypeInts)
		w.put(")")
	case 6:
		w.put("(")
		w.value(api.TypeInts)
		w.put(" != nil)")
	case 7:
		w.two(api.TypeBool, "&&", "||")
	}
}

func (w *writer) two(typ int, signs ...string) {
	w.put("(")
	w.value(typ)
	w.put(" ", signs[w.Intn(len(signs))], " ")
	w.value(typ)
	w.put(")")
}

// parsed is the tree of a text that must have one.
func parsed(text string) api.Tree {
	tokens, _, err := lex.Tokens([]byte(text))
	x, _, at, fault := parse.Parse(tokens, len(text))
	if err != api.OK || fault != api.OK {
		panic(strconv.Quote(text) + " does not parse at " + strconv.Itoa(at))
	}
	return x
}

// scatter gives the nodes of a tree other places, few of them, so that many are the same.
func scatter(d *rand.Rand, x api.Tree, places []int) {
	for i := range x.Nodes {
		n := &x.Nodes[i]
		n.At = places[d.Intn(len(places))]
		if n.Name != "" || n.Kind == api.NodeBinary {
			n.Where = places[d.Intn(len(places))]
		}
		if n.Kind == api.NodeFunc {
			n.Close = places[d.Intn(len(places))]
		}
	}
}

// turn changes one thing of a tree, which stays a tree.
func turn(d *rand.Rand, x api.Tree) {
	n := &x.Nodes[d.Intn(len(x.Nodes))]
	switch n.Kind {
	case api.NodeFunc:
		n.Decl = d.Intn(4)
	case api.NodeParam, api.NodeVar:
		n.Decl = 1 + d.Intn(3)
	case api.NodePrint, api.NodePanic:
		n.Kind = []int{api.NodePrint, api.NodePanic, api.NodeReturn}[d.Intn(3)]
	case api.NodeBreak, api.NodeContinue:
		n.Kind = []int{api.NodeBreak, api.NodeContinue, api.NodeReturn, api.NodeBlock}[d.Intn(4)]
	case api.NodeNum, api.NodeTrue, api.NodeFalse, api.NodeNil, api.NodeInput:
		n.Value = 0
		n.Kind = []int{api.NodeNum, api.NodeTrue, api.NodeNil, api.NodeInput}[d.Intn(4)]
	case api.NodeLen, api.NodeMake:
		n.Kind = api.NodeLen + api.NodeMake - n.Kind
	case api.NodeIndex:
		n.Kind, n.Op = api.NodeBinary, api.OpEq
	case api.NodeUnary:
		n.Op = api.OpNeg + d.Intn(3)
	case api.NodeBinary:
		n.Op = api.OpAdd + d.Intn(19)
	}
	if n.Name != "" && d.Intn(2) == 0 {
		n.Name = []string{"f0", "f1", "v0", "v1", "v2", "main", "nobody"}[d.Intn(7)]
	}
}
