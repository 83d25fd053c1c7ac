package sem_test

import (
	"math/big"

	"quern/api"
)

// oracle runs a tree by the chapter's words, one call within the other: names are looked for where they are used, scope by scope.
type oracle struct {
	tree   api.Tree
	input  []int
	limit  int
	active int
	told   api.Outcome
	trace  []moment
	kinds  map[int]int // how often a node of each kind was begun or done
}

// moment is what can be seen behind a step, but for the events themselves.
type moment struct{ end, kind, value, words, depth, events int }

// list is an array.
type list struct {
	length int
	set    map[int]int
}

type named struct {
	name string
	what any // an int, a bool, a *list
}

// scopes are the outer ones first.
type scopes [][]*named

// How the statements of a block were left.
const (
	byEnd = iota
	byBreak
	byContinue
	byReturn
)

// halt is thrown where the run ends or the limit is reached.
type halt struct{}

// watch runs a tree for so many steps at most.
func watch(t api.Tree, input []int, limit int) (o *oracle) {
	o = &oracle{tree: t, input: input, limit: limit, kinds: map[int]int{}}
	defer func() {
		if r := recover(); r != nil && r != any(halt{}) {
			panic(r)
		}
	}()
	o.activation("main")
	return o
}

func (o *oracle) node(number int) api.Node { return o.tree.Nodes[number] }

// step counts what change does as one step.
func (o *oracle) step(change func()) {
	if o.told.Steps == o.limit || o.told.End != api.Running {
		panic(halt{})
	}
	change()
	o.told.Steps++
	x := o.told
	o.trace = append(o.trace, moment{x.End, x.Kind, x.Value, x.Words, x.Depth, len(x.Events)})
	if o.told.End != api.Running {
		panic(halt{})
	}
}

func (o *oracle) trap(kind, value int) {
	o.told.End, o.told.Kind, o.told.Value = api.Panic, kind, value
}

func (o *oracle) function(name string) api.Node {
	for _, f := range o.tree.Funcs {
		if o.node(f).Name == name {
			return o.node(f)
		}
	}
	panic("no function " + name)
}

func (o *oracle) activation(name string, arguments ...any) any {
	f := o.function(name)
	block := o.node(f.Kids[len(f.Kids)-1])
	var own []*named
	o.step(func() {
		o.active++
		o.told.Depth = max(o.told.Depth, o.active)
		for i, a := range arguments {
			own = append(own, &named{o.node(f.Kids[i]).Name, a})
		}
	})
	_, result := o.statements(block.Kids, scopes{own})
	o.step(func() {
		o.active--
		if o.active == 0 {
			o.told.End = api.Exit
		}
	})
	return result
}

func (o *oracle) block(number int, s scopes) (int, any) {
	inner := append(append(scopes{}, s...), nil)
	return o.statements(o.node(number).Kids, inner)
}

func (o *oracle) statements(numbers []int, s scopes) (int, any) {
	for _, number := range numbers {
		if how, result := o.statement(number, s); how != byEnd {
			return how, result
		}
	}
	return byEnd, nil
}

func (o *oracle) find(name string, s scopes) *named {
	for i := len(s) - 1; i >= 0; i-- {
		for _, v := range s[i] {
			if v.name == name {
				return v
			}
		}
	}
	panic("no variable " + name)
}

func (o *oracle) statement(number int, s scopes) (int, any) {
	n := o.node(number)
	o.kinds[n.Kind]++
	o.step(func() {})
	switch n.Kind {
	case api.NodeVar:
		var v any = []any{nil, 0, false, (*list)(nil)}[n.Decl]
		if len(n.Kids) > 0 {
			v = o.value(n.Kids[0], s)
		}
		o.step(func() { s[len(s)-1] = append(s[len(s)-1], &named{n.Name, v}) })
	case api.NodeSet:
		v := o.value(n.Kids[0], s)
		o.step(func() { o.find(n.Name, s).what = v })
	case api.NodeSetAt:
		a := o.find(n.Name, s).what.(*list)
		i := o.value(n.Kids[0], s).(int)
		v := o.value(n.Kids[1], s).(int)
		o.step(func() {
			if a == nil || i < 0 || i >= a.length {
				o.trap(api.PanicIndex, 0)
				return
			}
			a.set[i] = v
		})
	case api.NodeCallStmt:
		o.value(n.Kids[0], s)
	case api.NodePrint:
		v := o.value(n.Kids[0], s)
		o.step(func() { o.told.Events = append(o.told.Events, event(v)) })
	case api.NodePanic:
		v := o.value(n.Kids[0], s).(int)
		o.step(func() { o.trap(api.PanicUser, v) })
	case api.NodeIf:
		return o.choice(n, s)
	case api.NodeFor:
		return o.loop(n, s)
	case api.NodeReturn:
		if len(n.Kids) > 0 {
			return byReturn, o.value(n.Kids[0], s)
		}
		return byReturn, nil
	case api.NodeBreak:
		return byBreak, nil
	case api.NodeContinue:
		return byContinue, nil
	case api.NodeBlock:
		return o.block(number, s)
	}
	return byEnd, nil
}

func (o *oracle) choice(n api.Node, s scopes) (int, any) {
	if o.value(n.Kids[0], s).(bool) {
		return o.block(n.Kids[1], s)
	}
	if len(n.Kids) == 2 {
		return byEnd, nil
	}
	if o.node(n.Kids[2]).Kind == api.NodeIf {
		return o.statement(n.Kids[2], s)
	}
	return o.block(n.Kids[2], s)
}

func (o *oracle) loop(n api.Node, s scopes) (int, any) {
	for {
		o.step(func() {})
		if len(n.Kids) == 2 && !o.value(n.Kids[0], s).(bool) {
			return byEnd, nil
		}
		switch how, result := o.block(n.Kids[len(n.Kids)-1], s); how {
		case byBreak:
			return byEnd, nil
		case byReturn:
			return how, result
		}
	}
}

func event(v any) api.Event {
	switch v := v.(type) {
	case int:
		return api.Event{Kind: api.EventInt, Value: v}
	case bool:
		if v {
			return api.Event{Kind: api.EventBool, Value: 1}
		}
	}
	return api.Event{Kind: api.EventBool}
}

func (o *oracle) value(number int, s scopes) (v any) {
	n := o.node(number)
	o.kinds[n.Kind]++
	if n.Op == api.OpBoth || n.Op == api.OpEither {
		left := o.value(n.Kids[0], s).(bool)
		o.step(func() {})
		if left == (n.Op == api.OpEither) {
			return left
		}
		return o.value(n.Kids[1], s)
	}
	var kids []any
	for _, kid := range n.Kids {
		kids = append(kids, o.value(kid, s))
	}
	if n.Kind == api.NodeCall {
		o.step(func() {})
		return o.activation(n.Name, kids...)
	}
	o.step(func() { v = o.done(n, kids, s) })
	return v
}

func (o *oracle) done(n api.Node, kids []any, s scopes) any {
	switch n.Kind {
	case api.NodeNum:
		return n.Value
	case api.NodeTrue:
		return true
	case api.NodeFalse:
		return false
	case api.NodeNil:
		return (*list)(nil)
	case api.NodeName:
		return o.find(n.Name, s).what
	case api.NodeInput:
		return o.nextInput()
	case api.NodeLen:
		if a := kids[0].(*list); a != nil {
			return a.length
		}
		return 0
	case api.NodeMake:
		return o.newList(kids[0].(int))
	case api.NodeIndex:
		a, i := kids[0].(*list), kids[1].(int)
		if a == nil || i < 0 || i >= a.length {
			o.trap(api.PanicIndex, 0)
			return nil
		}
		return a.set[i]
	case api.NodeUnary:
		return unary(n.Op, kids[0])
	}
	if n.Op == api.OpEq || n.Op == api.OpNe {
		return (kids[0] == kids[1]) == (n.Op == api.OpEq)
	}
	return o.binary(n.Op, kids[0].(int), kids[1].(int))
}

func (o *oracle) nextInput() any {
	if len(o.input) == 0 {
		o.trap(api.PanicInput, 0)
		return nil
	}
	n := o.input[0]
	o.input = o.input[1:]
	return n
}

func (o *oracle) newList(length int) any {
	if length < 0 {
		o.trap(api.PanicMake, 0)
		return nil
	}
	sum := new(big.Int).Add(big.NewInt(int64(o.told.Words)), big.NewInt(int64(length)))
	sum.Add(sum, big.NewInt(1))
	if most := big.NewInt(api.MaxWords); sum.Cmp(most) > 0 {
		sum = most
	}
	o.told.Words = int(sum.Int64())
	return &list{length, map[int]int{}}
}

func unary(op int, v any) any {
	switch op {
	case api.OpNot:
		return !v.(bool)
	case api.OpNeg:
		return wrapped(new(big.Int).Neg(big.NewInt(int64(v.(int)))))
	}
	return -1 - v.(int)
}

// wrapped is a number modulo 2^64.
func wrapped(n *big.Int) int {
	n.And(n, new(big.Int).SetUint64(1<<64-1))
	return int(n.Uint64())
}

func (o *oracle) binary(op, a, b int) any {
	x, y, z := big.NewInt(int64(a)), big.NewInt(int64(b)), new(big.Int)
	switch op {
	case api.OpLt:
		return a < b
	case api.OpLe:
		return a <= b
	case api.OpGt:
		return a > b
	case api.OpGe:
		return a >= b
	case api.OpDiv, api.OpRem:
		if b == 0 {
			o.trap(api.PanicDivide, 0)
			return nil
		}
	case api.OpShl, api.OpShr:
		if b < 0 {
			o.trap(api.PanicShift, 0)
			return nil
		}
	}
	count := uint(min(max(b, 0), 64)) // beyond 64 nothing more is lost
	switch op {
	case api.OpAdd:
		z.Add(x, y)
	case api.OpSub:
		z.Sub(x, y)
	case api.OpMul:
		z.Mul(x, y)
	case api.OpDiv:
		z.Quo(x, y)
	case api.OpRem:
		z.Rem(x, y)
	case api.OpAnd:
		z.And(x, y)
	case api.OpOr:
		z.Or(x, y)
	case api.OpXor:
		z.Xor(x, y)
	case api.OpBic:
		z.AndNot(x, y)
	case api.OpShl:
		z.Lsh(x, count)
	case api.OpShr:
		z.Rsh(x, count)
	default:
		panic("no operator")
	}
	return wrapped(z)
}
