package tree

import (
	"strconv"

	"quern/api"
)

// The levels of expressions: the higher one binds its values tighter.
const (
	levelEither = iota + 1
	levelBoth
	levelCompare
	levelSum
	levelProduct
	levelUnary
	levelSimple
)

// The tables go by the numbers of types and operators.
var (
	typeTexts = [...]string{api.TypeNone: "", api.TypeInt: "int", api.TypeBool: "bool", api.TypeInts: "[]int"}
	opTexts   = [...]string{
		api.OpAdd: "+", api.OpSub: "-", api.OpMul: "*", api.OpDiv: "/", api.OpRem: "%",
		api.OpAnd: "&", api.OpOr: "|", api.OpXor: "^", api.OpBic: "&^", api.OpShl: "<<", api.OpShr: ">>",
		api.OpEq: "==", api.OpNe: "!=", api.OpLt: "<", api.OpLe: "<=", api.OpGt: ">", api.OpGe: ">=",
		api.OpBoth: "&&", api.OpEither: "||",
		api.OpNeg: "-", api.OpNot: "!", api.OpInv: "^",
	}
)

// The forms of a part.
const (
	plainText   = iota // text
	wholeNode          // a node as it is printed
	wrappedNode        // a node in parentheses
	nextLine           // a line's end and the tabs of the line behind it
	blockEnd           // the line of a block's closing brace
)

// part is a piece of what is still to be printed.
type part struct {
	form int
	text string
	node int
}

// printer holds what is still to be printed as a stack, as a tree may be deeper than calls may go.
type printer struct {
	nodes []api.Node
	text  []byte
	todo  []part // the next one is the last
	open  int    // blocks
}

// Print tells a tree's text.
func Print(t api.Tree) ([]byte, api.Errno) {
	if err := Check(t); err != api.OK {
		return nil, err
	}
	p := printer{nodes: t.Nodes}
	for _, function := range t.Funcs {
		p.put(whole(function))
		p.printAll()
	}
	return p.text, api.OK
}

func text(s string) part    { return part{form: plainText, text: s} }
func whole(node int) part   { return part{form: wholeNode, node: node} }
func wrapped(node int) part { return part{form: wrappedNode, node: node} }

// put sets parts ahead of all that is still to be printed: so one node's text is put at once.
func (p *printer) put(parts ...part) {
	for i := len(parts) - 1; i >= 0; i-- {
		p.todo = append(p.todo, parts[i])
	}
}

func (p *printer) printAll() {
	for len(p.todo) > 0 {
		last := len(p.todo) - 1
		next := p.todo[last]
		p.todo = p.todo[:last]
		p.printPart(next)
	}
}

func (p *printer) printPart(next part) {
	switch next.form {
	case plainText:
		p.text = append(p.text, next.text...)
	case wholeNode:
		p.putNode(p.nodes[next.node])
	case wrappedNode:
		p.put(text("("), whole(next.node), text(")"))
	case nextLine:
		p.breakLine()
	case blockEnd:
		p.open--
		p.breakLine()
		p.text = append(p.text, '}')
	}
}

func (p *printer) breakLine() {
	p.text = append(p.text, '\n')
	for range p.open {
		p.text = append(p.text, '\t')
	}
}

func (p *printer) putNode(n api.Node) {
	switch {
	case isFunc(n.Kind):
		p.putFunc(n)
	case isParam(n.Kind):
		p.put(text(n.Name + " " + typeTexts[n.Decl]))
	case isBlock(n.Kind):
		p.putBlock(n)
	case isStatement(n.Kind):
		p.putStatement(n)
	default:
		p.putExpression(n)
	}
}

func (p *printer) putFunc(n api.Node) {
	block := len(n.Kids) - 1
	head := ") "
	if n.Decl != api.TypeNone {
		head = ") " + typeTexts[n.Decl] + " "
	}
	parts := []part{text("func " + n.Name + "(")}
	parts = append(parts, joined(n.Kids[:block])...)
	p.put(append(parts, text(head), whole(n.Kids[block]), text("\n"))...)
}

func (p *printer) putBlock(n api.Node) {
	p.open++
	parts := []part{text("{")}
	for _, statement := range n.Kids {
		parts = append(parts, part{form: nextLine}, whole(statement))
	}
	p.put(append(parts, part{form: blockEnd})...)
}

func (p *printer) putStatement(n api.Node) {
	switch n.Kind {
	case api.NodeVar:
		p.putWithValue("var "+n.Name+" "+typeTexts[n.Decl], " = ", n.Kids)
	case api.NodeSet:
		p.putWithValue(n.Name, " = ", n.Kids)
	case api.NodeSetAt:
		p.put(text(n.Name+"["), whole(n.Kids[0]), text("] = "), whole(n.Kids[1]), text(";"))
	case api.NodeCallStmt:
		p.put(whole(n.Kids[0]), text(";"))
	case api.NodePrint:
		p.put(text("print("), whole(n.Kids[0]), text(");"))
	case api.NodePanic:
		p.put(text("panic("), whole(n.Kids[0]), text(");"))
	case api.NodeIf:
		p.putIf(n)
	case api.NodeFor:
		p.putFor(n)
	case api.NodeReturn:
		p.putWithValue("return", " ", n.Kids)
	case api.NodeBreak:
		p.put(text("break;"))
	case api.NodeContinue:
		p.put(text("continue;"))
	}
}

// putWithValue puts a statement that may lack its value, and what leads to that value with it.
func (p *printer) putWithValue(head, lead string, value []int) {
	if len(value) == 0 {
		p.put(text(head), text(";"))
		return
	}
	p.put(text(head), text(lead), whole(value[0]), text(";"))
}

func (p *printer) putIf(n api.Node) {
	parts := []part{text("if "), whole(n.Kids[0]), text(" "), whole(n.Kids[1])}
	for _, other := range n.Kids[2:] {
		parts = append(parts, text(" else "), whole(other))
	}
	p.put(parts...)
}

func (p *printer) putFor(n api.Node) {
	parts := []part{text("for")}
	for _, kid := range n.Kids {
		parts = append(parts, text(" "), whole(kid))
	}
	p.put(parts...)
}

func (p *printer) putExpression(n api.Node) {
	switch n.Kind {
	case api.NodeNum:
		p.put(text(strconv.Itoa(n.Value)))
	case api.NodeTrue:
		p.put(text("true"))
	case api.NodeFalse:
		p.put(text("false"))
	case api.NodeNil:
		p.put(text("nil"))
	case api.NodeInput:
		p.put(text("input()"))
	case api.NodeName:
		p.put(text(n.Name))
	case api.NodeCall:
		parts := append([]part{text(n.Name + "(")}, joined(n.Kids)...)
		p.put(append(parts, text(")"))...)
	case api.NodeLen:
		p.put(text("len("), whole(n.Kids[0]), text(")"))
	case api.NodeMake:
		p.put(text("make([]int, "), whole(n.Kids[0]), text(")"))
	case api.NodeIndex:
		p.put(p.value(n.Kids[0], levelSimple), text("["), whole(n.Kids[1]), text("]"))
	case api.NodeUnary:
		p.put(text(opTexts[n.Op]), p.value(n.Kids[0], levelUnary))
	case api.NodeBinary:
		p.putBinary(n)
	}
}

// putBinary asks more of the right value, as a chain joins from the left; comparisons don't chain at all.
func (p *printer) putBinary(n api.Node) {
	level := levelOf(n)
	left, right := level, level+1
	if level == levelCompare {
		left = right
	}
	p.put(p.value(n.Kids[0], left), text(" "+opTexts[n.Op]+" "), p.value(n.Kids[1], right))
}

// value is a value, in parentheses if its level is below the least one that stands without.
func (p *printer) value(node, least int) part {
	if levelOf(p.nodes[node]) < least {
		return wrapped(node)
	}
	return whole(node)
}

func levelOf(n api.Node) int {
	switch n.Kind {
	case api.NodeUnary:
		return levelUnary
	case api.NodeBinary:
		return levelOfOp(n.Op)
	}
	return levelSimple
}

func levelOfOp(op int) int {
	switch op {
	case api.OpEither:
		return levelEither
	case api.OpBoth:
		return levelBoth
	case api.OpEq, api.OpNe, api.OpLt, api.OpLe, api.OpGt, api.OpGe:
		return levelCompare
	case api.OpAdd, api.OpSub, api.OpOr, api.OpXor:
		return levelSum
	}
	return levelProduct
}

// joined is kids with commas between.
func joined(kids []int) []part {
	var parts []part
	for i, kid := range kids {
		if i > 0 {
			parts = append(parts, text(", "))
		}
		parts = append(parts, whole(kid))
	}
	return parts
}
