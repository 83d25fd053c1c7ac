package build_test

import (
	"slices"

	"quern/api"
	"quern/sample"
)

// The oracle builds by the chapter's sentences, one by one, with no thought of time or depth: values and blocks are
// known by their pointers, names are looked for scope by scope, and a trivial Phi is taken away, at any time and in a
// drawn order, by going through all that there is.

type oValue struct {
	op, typ, imm int
	args         []*oValue
	variable     *oVariable // of a Phi, nil of && and ||
	asked        bool       // of a Phi: its Args
	number       int
}

type oVariable struct {
	name  string
	typ   int
	place int // in the order of their declaration
}

type oBlock struct {
	number        int
	begun, sealed bool
	preds         []*oBlock
	has           map[*oVariable]*oValue
	phis, body    []*oValue
	kind          int
	value         *oValue
	to            []*oBlock
}

type oLoop struct{ head, behind *oBlock }

// oFunction is one that the oracle builds.
type oFunction struct {
	api.Tree
	dice      *sample.Dice
	scopes    [][]*oVariable
	variables int
	loops     []oLoop
	blocks    []*oBlock
	open      *oBlock
	params    []*oValue
	count     int
	taken     int // how many Phis were taken away
}

// oracle tells a program's SSA, and of each function its count.
func oracle(t api.Tree, d *sample.Dice) (s api.SSA, functions []*oFunction) {
	for place, number := range t.Funcs {
		f := &oFunction{Tree: t, dice: d}
		s.Funcs = append(s.Funcs, f.build(t.Nodes[number]))
		functions = append(functions, f)
		if t.Nodes[number].Name == "main" {
			s.Main = place
		}
	}
	return s, functions
}

func (f *oFunction) build(n api.Node) api.SFunc {
	f.begin(&oBlock{})
	f.scopes = [][]*oVariable{nil}
	last := len(n.Kids) - 1
	for i, p := range n.Kids[:last] {
		v := &oValue{op: api.InsParam, typ: f.Nodes[p].Decl, imm: i}
		f.params = append(f.params, v)
		f.count++
		f.set(f.declare(f.Nodes[p]), v)
	}
	f.statements(f.Nodes[n.Kids[last]].Kids)
	if f.open != nil {
		f.close(api.TermReturn, nil)
	}
	for f.takeOneAway() {
	}
	return f.told(n)
}

func (f *oFunction) declare(n api.Node) *oVariable {
	v := &oVariable{n.Name, n.Decl, f.variables}
	f.variables++
	inner := &f.scopes[len(f.scopes)-1]
	*inner = append(*inner, v)
	return v
}

func (f *oFunction) known(name string) *oVariable {
	for i := len(f.scopes) - 1; ; i-- {
		for _, v := range f.scopes[i] {
			if v.name == name {
				return v
			}
		}
	}
}

func (f *oFunction) begin(b *oBlock) {
	b.number, b.begun, b.sealed = len(f.blocks), true, true
	b.has = map[*oVariable]*oValue{}
	f.blocks = append(f.blocks, b)
	f.open = b
}

func (f *oFunction) close(kind int, value *oValue, to ...*oBlock) {
	f.open.kind, f.open.value, f.open.to = kind, value, to
	for _, b := range to {
		b.preds = append(b.preds, f.open)
		slices.SortFunc(b.preds, func(x, y *oBlock) int { return x.number - y.number })
	}
	f.open = nil
}

func (f *oFunction) make(op, typ, imm int, args ...*oValue) *oValue {
	v := &oValue{op: op, typ: typ, imm: imm, args: args}
	f.count++
	f.open.body = append(f.open.body, v)
	return v
}

func (f *oFunction) statements(list []int) {
	for _, number := range list {
		if f.open == nil {
			return
		}
		f.statement(number)
		if f.dice.Below(4) == 0 {
			f.takeOneAway()
		}
	}
}

// inner builds the statements of a Block, in a scope of its own.
func (f *oFunction) inner(number int) {
	f.scopes = append(f.scopes, nil)
	f.statements(f.Nodes[number].Kids)
	f.scopes = f.scopes[:len(f.scopes)-1]
}

func (f *oFunction) statement(number int) {
	switch n := f.Nodes[number]; n.Kind {
	case api.NodeVar:
		var v *oValue
		if len(n.Kids) == 1 {
			v = f.expression(n.Kids[0])
		} else {
			v = f.make(api.InsConst, n.Decl, 0)
		}
		f.set(f.declare(n), v)
	case api.NodeSet:
		v := f.expression(n.Kids[0])
		f.set(f.known(n.Name), v)
	case api.NodeSetAt:
		a := f.ask(f.open, f.known(n.Name))
		i := f.expression(n.Kids[0])
		v := f.expression(n.Kids[1])
		length := f.make(api.InsLen, api.TypeInt, 0, a)
		f.make(api.InsTrapBound, 0, api.PanicIndex, i, length)
		f.make(api.InsStore, 0, 0, a, i, v)
	case api.NodeCallStmt:
		f.expression(n.Kids[0])
	case api.NodePrint:
		v := f.expression(n.Kids[0])
		f.make(map[int]int{api.TypeInt: api.InsPrintInt, api.TypeBool: api.InsPrintBool}[v.typ], 0, 0, v)
	case api.NodePanic:
		f.close(api.TermPanic, f.expression(n.Kids[0]))
	case api.NodeReturn:
		var v *oValue
		if len(n.Kids) == 1 {
			v = f.expression(n.Kids[0])
		}
		f.close(api.TermReturn, v)
	case api.NodeIf:
		f.choice(n)
	case api.NodeFor:
		f.loop(n)
	case api.NodeBreak:
		f.close(api.TermJump, nil, f.loops[len(f.loops)-1].behind)
	case api.NodeContinue:
		f.close(api.TermJump, nil, f.loops[len(f.loops)-1].head)
	case api.NodeBlock:
		f.inner(number)
	}
}

func (f *oFunction) choice(n api.Node) {
	condition := f.expression(n.Kids[0])
	yes, no, behind := &oBlock{}, &oBlock{}, &oBlock{}
	if len(n.Kids) == 3 {
		f.close(api.TermBranch, condition, yes, no)
	} else {
		f.close(api.TermBranch, condition, yes, behind)
	}
	f.begin(yes)
	f.inner(n.Kids[1])
	if f.open != nil {
		f.close(api.TermJump, nil, behind)
	}
	if len(n.Kids) == 3 {
		f.begin(no)
		f.statement(n.Kids[2])
		if f.open != nil {
			f.close(api.TermJump, nil, behind)
		}
	}
	if len(behind.preds) > 0 {
		f.begin(behind)
	}
}

func (f *oFunction) loop(n api.Node) {
	head, body, behind := &oBlock{}, &oBlock{}, &oBlock{}
	f.close(api.TermJump, nil, head)
	f.begin(head)
	head.sealed = false
	if len(n.Kids) == 2 {
		f.close(api.TermBranch, f.expression(n.Kids[0]), body, behind)
	} else {
		f.close(api.TermJump, nil, body)
	}
	f.begin(body)
	f.loops = append(f.loops, oLoop{head, behind})
	f.inner(n.Kids[len(n.Kids)-1])
	f.loops = f.loops[:len(f.loops)-1]
	if f.open != nil {
		f.close(api.TermJump, nil, head)
	}
	head.sealed = true
	for _, p := range slices.Clone(head.phis) {
		f.askArgs(head, p)
	}
	if len(behind.preds) > 0 {
		f.begin(behind)
	}
}

func (f *oFunction) set(v *oVariable, value *oValue) { f.open.has[v] = value }

func (f *oFunction) ask(b *oBlock, v *oVariable) *oValue {
	if value := b.has[v]; value != nil {
		return value
	}
	if b.sealed && len(b.preds) == 1 {
		return f.ask(b.preds[0], v)
	}
	p := &oValue{op: api.InsPhi, typ: v.typ, variable: v}
	f.count++
	b.phis = append(b.phis, p)
	b.has[v] = p
	if b.sealed {
		f.askArgs(b, p)
	}
	return p
}

func (f *oFunction) askArgs(b *oBlock, p *oValue) {
	for _, from := range b.preds {
		p.args = append(p.args, f.ask(from, p.variable))
		f.count++
	}
	p.asked = true
}

var oOps = map[int]int{
	api.OpAdd: api.InsAdd, api.OpSub: api.InsSub, api.OpMul: api.InsMul, api.OpDiv: api.InsDiv, api.OpRem: api.InsRem,
	api.OpAnd: api.InsAnd, api.OpOr: api.InsOr, api.OpXor: api.InsXor, api.OpBic: api.InsBic, api.OpShl: api.InsShl, api.OpShr: api.InsShr,
	api.OpEq: api.InsEq, api.OpNe: api.InsNe, api.OpLt: api.InsLt, api.OpLe: api.InsLe, api.OpGt: api.InsLt, api.OpGe: api.InsLe,
	api.OpNeg: api.InsNeg, api.OpNot: api.InsNot, api.OpInv: api.InsInv,
}

func (f *oFunction) expression(number int) *oValue {
	n := f.Nodes[number]
	switch n.Kind {
	case api.NodeNum:
		return f.make(api.InsConst, api.TypeInt, n.Value)
	case api.NodeTrue:
		return f.make(api.InsConst, api.TypeBool, 1)
	case api.NodeFalse:
		return f.make(api.InsConst, api.TypeBool, 0)
	case api.NodeNil:
		return f.make(api.InsConst, api.TypeInts, 0)
	case api.NodeName:
		return f.ask(f.open, f.known(n.Name))
	case api.NodeInput:
		return f.make(api.InsInput, api.TypeInt, 0)
	}
	if n.Op == api.OpBoth || n.Op == api.OpEither {
		return f.lazy(n)
	}
	var v []*oValue
	for _, kid := range n.Kids {
		v = append(v, f.expression(kid))
	}
	switch n.Kind {
	case api.NodeLen:
		return f.make(api.InsLen, api.TypeInt, 0, v[0])
	case api.NodeMake:
		f.make(api.InsTrapNeg, 0, api.PanicMake, v[0])
		return f.make(api.InsAlloc, api.TypeInts, 0, v[0])
	case api.NodeIndex:
		length := f.make(api.InsLen, api.TypeInt, 0, v[0])
		f.make(api.InsTrapBound, 0, api.PanicIndex, v[1], length)
		return f.make(api.InsLoad, api.TypeInt, 0, v[0], v[1])
	case api.NodeCall:
		place := slices.IndexFunc(f.Funcs, func(g int) bool { return f.Nodes[g].Name == n.Name })
		return f.make(api.InsCall, f.Nodes[f.Funcs[place]].Decl, place, v...)
	}
	typ := api.TypeInt
	if n.Op >= api.OpEq && n.Op <= api.OpGe || n.Op == api.OpNot {
		typ = api.TypeBool
	}
	switch n.Op {
	case api.OpDiv, api.OpRem:
		f.make(api.InsTrapZero, 0, api.PanicDivide, v[1])
	case api.OpShl, api.OpShr:
		f.make(api.InsTrapNeg, 0, api.PanicShift, v[1])
	case api.OpGt, api.OpGe:
		v[0], v[1] = v[1], v[0]
	}
	return f.make(oOps[n.Op], typ, 0, v...)
}

func (f *oFunction) lazy(n api.Node) *oValue {
	right, behind := &oBlock{}, &oBlock{}
	l := f.expression(n.Kids[0])
	if n.Op == api.OpBoth {
		f.close(api.TermBranch, l, right, behind)
	} else {
		f.close(api.TermBranch, l, behind, right)
	}
	f.begin(right)
	r := f.expression(n.Kids[1])
	f.close(api.TermJump, nil, behind)
	f.begin(behind)
	p := &oValue{op: api.InsPhi, typ: api.TypeBool, args: []*oValue{l, r}, asked: true}
	f.count += 3
	behind.phis = append(behind.phis, p)
	return p
}

// oOther tells the one value that is beside itself among a Phi's Args; nil: it is not trivial.
func oOther(p *oValue) *oValue {
	var others []*oValue
	for _, a := range p.args {
		if a != p && !slices.Contains(others, a) {
			others = append(others, a)
		}
	}
	if !p.asked || len(others) != 1 {
		return nil
	}
	return others[0]
}

// takeOneAway takes a drawn one of the trivial Phis away; false: there is none.
func (f *oFunction) takeOneAway() bool {
	type place struct {
		b *oBlock
		p *oValue
	}
	var all []place
	for _, b := range f.blocks {
		for _, p := range b.phis {
			if oOther(p) != nil {
				all = append(all, place{b, p})
			}
		}
	}
	if len(all) == 0 {
		return false
	}
	x := all[f.dice.Below(len(all))]
	other := oOther(x.p)
	f.taken++
	x.b.phis = slices.DeleteFunc(x.b.phis, func(p *oValue) bool { return p == x.p })
	put := func(v *oValue) *oValue {
		if v == x.p {
			return other
		}
		return v
	}
	for _, b := range f.blocks {
		b.value = put(b.value)
		for v, has := range b.has {
			b.has[v] = put(has)
		}
		for _, list := range [][]*oValue{b.phis, b.body} {
			for _, user := range list {
				for i := range user.args {
					user.args[i] = put(user.args[i])
				}
			}
		}
	}
	return true
}

func (f *oFunction) told(n api.Node) api.SFunc {
	s := api.SFunc{Name: n.Name, Result: n.Decl}
	var order []*oValue
	give := func(list []*oValue) (numbers []int) {
		for _, v := range list {
			v.number = len(order)
			order = append(order, v)
			numbers = append(numbers, v.number)
		}
		return numbers
	}
	s.Params = give(f.params)
	for _, b := range f.blocks {
		slices.SortFunc(b.phis, func(x, y *oValue) int { return x.rank() - y.rank() })
		block := api.Block{Phis: give(b.phis), Body: give(b.body), Term: api.Term{Kind: b.kind, Value: -1}}
		for _, p := range b.preds {
			block.Preds = append(block.Preds, p.number)
		}
		for _, to := range b.to {
			block.Term.To = append(block.Term.To, to.number)
		}
		s.Blocks = append(s.Blocks, block)
	}
	for i, b := range f.blocks {
		if b.value != nil {
			s.Blocks[i].Term.Value = b.value.number
		}
	}
	for _, v := range order {
		value := api.Value{Op: v.op, Type: v.typ, Imm: v.imm}
		for _, a := range v.args {
			value.Args = append(value.Args, a.number)
		}
		s.Values = append(s.Values, value)
	}
	return s
}

// rank is a Phi's place among those of its block.
func (v *oValue) rank() int {
	if v.variable == nil {
		return -1
	}
	return v.variable.place
}
