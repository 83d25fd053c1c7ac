package parse_test

import (
	"math/rand"
	"strconv"

	"quern/api"
)

// writer goes the rules of the grammar by a source of numbers: it puts down the tokens of a program, and by the words of P403 and P404 what Parse must make of them.
type writer struct {
	draw   *rand.Rand
	left   int // how much may still be written
	tokens []api.Token
	tree   api.Tree
	nests  []int
	open   int
	most   int
}

func drawn(seed int64, size int) *writer {
	w := &writer{draw: rand.New(rand.NewSource(seed)), left: size}
	for w.left > 0 {
		w.function()
	}
	return w
}

// one tells whether to go on: one time out of n, and not at the end.
func (w *writer) one(n int) bool {
	w.left--
	return w.left > 0 && w.draw.Intn(n) == 0
}

// put writes a token at any place and tells that.
func (w *writer) put(kinds ...int) int {
	at := 0
	for _, kind := range kinds {
		at = w.draw.Int() - w.draw.Int()
		token := api.Token{Kind: kind, At: at}
		if kind != api.TokName && w.draw.Intn(3) == 0 { // not looked at
			token.Name = "if"
		}
		if kind != api.TokNumber && w.draw.Intn(3) == 0 {
			token.Value = -1
		}
		w.tokens = append(w.tokens, token)
	}
	return at
}

func (w *writer) name() (string, int) {
	at := w.put(api.TokName)
	name := "v" + strconv.Itoa(w.draw.Intn(100))
	w.tokens[len(w.tokens)-1].Name = name
	return name, at
}

func (w *writer) node(n api.Node) int {
	w.tree.Nodes = append(w.tree.Nodes, n)
	return len(w.tree.Nodes) - 1
}

func (w *writer) at(node int) int { return w.tree.Nodes[node].At }

func (w *writer) enter() {
	w.open++
	w.most = max(w.most, w.open)
}

func (w *writer) typ() int {
	switch w.draw.Intn(3) {
	case 0:
		w.put(api.TokInt)
		return api.TypeInt
	case 1:
		w.put(api.TokBool)
		return api.TypeBool
	}
	w.put(api.TokAt, api.TokShut, api.TokInt)
	return api.TypeInts
}

func (w *writer) function() {
	w.most = 0
	n := api.Node{Kind: api.NodeFunc, At: w.put(api.TokFunc)}
	n.Name, n.Where = w.name()
	w.put(api.TokOpen)
	for i := range w.draw.Intn(4) {
		if i > 0 {
			w.put(api.TokComma)
		}
		name, at := w.name()
		n.Kids = append(n.Kids, w.node(api.Node{Kind: api.NodeParam, At: at, Where: at, Name: name, Decl: w.typ()}))
	}
	w.put(api.TokClose)
	if w.draw.Intn(2) == 0 {
		n.Decl = w.typ()
	}
	n.Kids = append(n.Kids, w.block())
	n.Close = w.tokens[len(w.tokens)-1].At
	w.tree.Funcs = append(w.tree.Funcs, w.node(n))
	w.nests = append(w.nests, w.most)
}

func (w *writer) block() int {
	n := api.Node{Kind: api.NodeBlock, At: w.put(api.TokBegin)}
	w.enter()
	for w.left > 0 && w.draw.Intn(4) > 0 {
		n.Kids = append(n.Kids, w.statement())
	}
	w.open--
	w.put(api.TokEnd)
	return w.node(n)
}

func (w *writer) statement() int {
	switch w.draw.Intn(8) {
	case 0:
		return w.condition()
	case 1:
		n := api.Node{Kind: api.NodeFor, At: w.put(api.TokFor)}
		if w.one(2) {
			n.Kids = append(n.Kids, w.expr())
		}
		n.Kids = append(n.Kids, w.block())
		return w.node(n)
	case 2:
		if w.one(1) {
			return w.block()
		}
	}
	n := w.simple()
	w.put(api.TokSemi)
	return w.node(n)
}

func (w *writer) condition() int {
	n := api.Node{Kind: api.NodeIf, At: w.put(api.TokIf), Kids: []int{w.expr()}}
	n.Kids = append(n.Kids, w.block())
	switch {
	case w.one(3):
		w.put(api.TokElse)
		w.enter()
		n.Kids = append(n.Kids, w.condition())
		w.open--
	case w.one(2):
		w.put(api.TokElse)
		n.Kids = append(n.Kids, w.block())
	}
	return w.node(n)
}

func (w *writer) simple() api.Node {
	switch w.draw.Intn(8) {
	case 0:
		n := api.Node{Kind: api.NodeVar, At: w.put(api.TokVar)}
		n.Name, n.Where = w.name()
		n.Decl = w.typ()
		if w.one(2) {
			w.put(api.TokSet)
			n.Kids = []int{w.expr()}
		}
		return n
	case 1:
		return api.Node{Kind: api.NodePrint, At: w.put(api.TokPrint), Kids: []int{w.pair(api.TokOpen, api.TokClose)}}
	case 2:
		return api.Node{Kind: api.NodePanic, At: w.put(api.TokPanic), Kids: []int{w.pair(api.TokOpen, api.TokClose)}}
	case 3:
		n := api.Node{Kind: api.NodeReturn, At: w.put(api.TokReturn)}
		if w.one(2) {
			n.Kids = []int{w.expr()}
		}
		return n
	case 4:
		k := w.draw.Intn(2)
		return api.Node{Kind: api.NodeBreak + k, At: w.put(api.TokBreak + k)}
	case 5:
		name, at := w.name()
		return api.Node{Kind: api.NodeCallStmt, At: at, Kids: []int{w.call(name, at)}}
	}
	n := api.Node{Kind: api.NodeSet}
	n.Name, n.Where = w.name()
	n.At = n.Where
	if w.one(2) {
		n.Kind = api.NodeSetAt
		n.Kids = []int{w.pair(api.TokAt, api.TokShut)}
	}
	w.put(api.TokSet)
	n.Kids = append(n.Kids, w.expr())
	return n
}

func (w *writer) pair(open, shut int) int {
	w.put(open)
	w.enter()
	value := w.expr()
	w.open--
	w.put(shut)
	return value
}

func (w *writer) call(name string, at int) int {
	n := api.Node{Kind: api.NodeCall, At: at, Where: at, Name: name}
	w.put(api.TokOpen)
	w.enter()
	for i := range w.draw.Intn(4) {
		if i > 0 {
			w.put(api.TokComma)
		}
		n.Kids = append(n.Kids, w.expr())
	}
	w.open--
	w.put(api.TokClose)
	return w.node(n)
}

// sign is a sign between two values with its operator.
type sign struct{ kind, op int }

// signsOf are those of the rules expr, and, cmp, sum, prod.
var signsOf = [][]sign{
	{{api.TokEither, api.OpEither}},
	{{api.TokBoth, api.OpBoth}},
	{{api.TokEq, api.OpEq}, {api.TokNe, api.OpNe}, {api.TokLt, api.OpLt}, {api.TokLe, api.OpLe}, {api.TokGt, api.OpGt}, {api.TokGe, api.OpGe}},
	{{api.TokAdd, api.OpAdd}, {api.TokSub, api.OpSub}, {api.TokOr, api.OpOr}, {api.TokXor, api.OpXor}},
	{{api.TokMul, api.OpMul}, {api.TokDiv, api.OpDiv}, {api.TokRem, api.OpRem}, {api.TokShl, api.OpShl}, {api.TokShr, api.OpShr}, {api.TokAnd, api.OpAnd}, {api.TokBic, api.OpBic}},
}

func (w *writer) expr() int { return w.joined(0) }

// joined writes what the rule of the signs says: one value more and more, joined from the left.
func (w *writer) joined(rule int) int {
	if rule == len(signsOf) {
		return w.unary()
	}
	left := w.joined(rule + 1)
	for w.one(4) {
		s := signsOf[rule][w.draw.Intn(len(signsOf[rule]))]
		n := api.Node{Kind: api.NodeBinary, At: w.at(left), Where: w.put(s.kind), Op: s.op}
		n.Kids = []int{left, w.joined(rule + 1)}
		left = w.node(n)
		if s.op >= api.OpEq && s.op <= api.OpGe {
			break
		}
	}
	return left
}

func (w *writer) unary() int {
	if w.one(4) {
		s := []sign{{api.TokSub, api.OpNeg}, {api.TokNot, api.OpNot}, {api.TokXor, api.OpInv}}[w.draw.Intn(3)]
		n := api.Node{Kind: api.NodeUnary, At: w.put(s.kind), Op: s.op}
		w.enter()
		n.Kids = []int{w.unary()}
		w.open--
		return w.node(n)
	}
	value := w.prim()
	for w.one(4) {
		n := api.Node{Kind: api.NodeIndex, At: w.at(value)}
		n.Kids = []int{value, w.pair(api.TokAt, api.TokShut)}
		value = w.node(n)
	}
	return value
}

func (w *writer) prim() int {
	choice := w.draw.Intn(9)
	if w.left <= 0 {
		choice %= 4
	}
	switch choice {
	case 0:
		at := w.put(api.TokNumber)
		value := w.draw.Int()
		w.tokens[len(w.tokens)-1].Value = value
		return w.node(api.Node{Kind: api.NodeNum, At: at, Value: value})
	case 1:
		k := w.draw.Intn(3)
		return w.node(api.Node{Kind: api.NodeTrue + k, At: w.put(api.TokTrue + k)})
	case 2:
		n := api.Node{Kind: api.NodeInput, At: w.put(api.TokInput)}
		w.put(api.TokOpen, api.TokClose)
		w.enter()
		w.open--
		return w.node(n)
	case 4:
		return w.pair(api.TokOpen, api.TokClose)
	case 5:
		n := api.Node{Kind: api.NodeLen, At: w.put(api.TokLen)}
		n.Kids = []int{w.pair(api.TokOpen, api.TokClose)}
		return w.node(n)
	case 6:
		n := api.Node{Kind: api.NodeMake, At: w.put(api.TokMake)}
		w.put(api.TokOpen, api.TokAt, api.TokShut, api.TokInt, api.TokComma)
		w.enter()
		n.Kids = []int{w.expr()}
		w.open--
		w.put(api.TokClose)
		return w.node(n)
	case 7:
		name, at := w.name()
		return w.call(name, at)
	}
	name, at := w.name()
	return w.node(api.Node{Kind: api.NodeName, At: at, Where: at, Name: name})
}
