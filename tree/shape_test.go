package tree_test

import (
	"math/rand"
	"slices"

	"quern/api"
	"quern/tree"
)

// shape is a node with its kids at hand: what trees are made of here.
type shape struct {
	node api.Node
	kids []*shape
}

func of(kind int, kids ...*shape) *shape { return &shape{api.Node{Kind: kind}, kids} }

func (s *shape) named(name string) *shape { s.node.Name = name; return s }
func (s *shape) decl(typ int) *shape      { s.node.Decl = typ; return s }
func (s *shape) op(op int) *shape         { s.node.Op = op; return s }
func (s *shape) value(n int) *shape       { s.node.Value = n; return s }

func num(n int) *shape                     { return of(api.NodeNum).value(n) }
func name(s string) *shape                 { return of(api.NodeName).named(s) }
func call(s string, args ...*shape) *shape { return of(api.NodeCall, args...).named(s) }
func index(v, i *shape) *shape             { return of(api.NodeIndex, v, i) }
func unary(op int, v *shape) *shape        { return of(api.NodeUnary, v).op(op) }
func binary(op int, l, r *shape) *shape    { return of(api.NodeBinary, l, r).op(op) }
func block(l ...*shape) *shape             { return of(api.NodeBlock, l...) }
func variable(s string, typ int, v ...*shape) *shape {
	return of(api.NodeVar, v...).named(s).decl(typ)
}
func set(s string, v *shape) *shape            { return of(api.NodeSet, v).named(s) }
func setAt(s string, i, v *shape) *shape       { return of(api.NodeSetAt, i, v).named(s) }
func param(s string, typ int) *shape           { return of(api.NodeParam).named(s).decl(typ) }
func function(s string, kids ...*shape) *shape { return of(api.NodeFunc, kids...).named(s) }
func show(v *shape) *shape                     { return of(api.NodePrint, v) }

// flat is the tree of the functions.
func flat(functions ...*shape) api.Tree {
	var t api.Tree
	var walk func(s *shape) int
	walk = func(s *shape) int {
		n := s.node
		n.Kids = nil
		for _, kid := range s.kids {
			n.Kids = append(n.Kids, walk(kid))
		}
		t.Nodes = append(t.Nodes, n)
		return len(t.Nodes) - 1
	}
	for _, f := range functions {
		t.Funcs = append(t.Funcs, walk(f))
	}
	return t
}

// mainOf is a tree whose one function has these statements.
func mainOf(statements ...*shape) api.Tree { return flat(function("main", block(statements...))) }

// leaf is a right node of a kind, with as few kids as may be.
func leaf(kind int) *shape {
	switch kind {
	case api.NodeFunc:
		return function("f", block())
	case api.NodeParam:
		return param("p", api.TypeInt)
	case api.NodeVar:
		return variable("v", api.TypeBool)
	case api.NodeSet:
		return set("v", num(1))
	case api.NodeSetAt:
		return setAt("v", num(1), num(2))
	case api.NodeCallStmt:
		return of(kind, call("g"))
	case api.NodePrint, api.NodePanic, api.NodeLen, api.NodeMake:
		return of(kind, num(1))
	case api.NodeIf:
		return of(kind, of(api.NodeTrue), block())
	case api.NodeFor:
		return of(kind, block())
	case api.NodeName:
		return name("v")
	case api.NodeCall:
		return call("g")
	case api.NodeIndex:
		return index(name("v"), num(0))
	case api.NodeUnary:
		return unary(api.OpNeg, num(1))
	case api.NodeBinary:
		return binary(api.OpAdd, num(1), num(2))
	}
	return of(kind)
}

// around is a tree with the node in a place where its kind may stand.
func around(s *shape) api.Tree {
	switch k := s.node.Kind; {
	case k == api.NodeFunc:
		return flat(s)
	case k == api.NodeParam:
		return flat(function("main", s, block()))
	case k <= api.NodeContinue:
		return mainOf(s)
	}
	return mainOf(show(s))
}

// kinds are all kinds of nodes.
func kinds() []int {
	var l []int
	for k := api.NodeFunc; k <= api.NodeContinue; k++ {
		l = append(l, k)
	}
	for k := api.NodeNum; k <= api.NodeBinary; k++ {
		l = append(l, k)
	}
	return l
}

// clone is a tree that shares nothing with the first.
func clone(t api.Tree) api.Tree {
	c := api.Tree{Nodes: slices.Clone(t.Nodes), Funcs: slices.Clone(t.Funcs)}
	for i := range c.Nodes {
		c.Nodes[i].Kids = slices.Clone(c.Nodes[i].Kids)
	}
	return c
}

// plain is a tree without At, Where, Close and Type, and with nil for each empty list.
func plain(t api.Tree) api.Tree {
	c := clone(t)
	if len(c.Nodes) == 0 {
		c.Nodes = nil
	}
	if len(c.Funcs) == 0 {
		c.Funcs = nil
	}
	for i := range c.Nodes {
		n := &c.Nodes[i]
		n.At, n.Where, n.Close, n.Type = 0, 0, 0, 0
		if len(n.Kids) == 0 {
			n.Kids = nil
		}
	}
	return c
}

// drawn makes shapes by a source of numbers.
type drawn struct{ *rand.Rand }

func (d drawn) name() string {
	return []string{"a", "b", "f", "main", "x1", "_", "Int", "lenx", "zzzzzzzz"}[d.Intn(9)]
}

func (d drawn) list(most int, f func() *shape) []*shape {
	var l []*shape
	for range d.Intn(most + 1) {
		l = append(l, f())
	}
	return l
}

func (d drawn) expression(deep int) *shape {
	sub := func() *shape { return d.expression(deep - 1) }
	pick := d.Intn(14)
	if deep <= 0 {
		pick = d.Intn(6)
	}
	s := num(d.Intn(20))
	switch pick {
	case 0:
		s = num(d.Intn(1 << d.Intn(62)))
	case 1, 2:
		s = name(d.name())
	case 3:
		s = of([]int{api.NodeTrue, api.NodeFalse, api.NodeNil, api.NodeInput}[d.Intn(4)])
	case 6:
		s = call(d.name(), d.list(3, sub)...)
	case 7:
		s = of([]int{api.NodeLen, api.NodeMake}[d.Intn(2)], sub())
	case 8, 9:
		s = index(sub(), sub())
	case 10, 11:
		s = unary(api.OpNeg+d.Intn(3), sub())
	case 12, 13:
		s = binary(api.OpAdd+d.Intn(19), sub(), sub())
	}
	s.node.Type = d.Intn(4)
	return s
}

func (d drawn) statement(deep int) *shape {
	pick := d.Intn(16)
	if deep <= 0 {
		pick = d.Intn(10)
	}
	value := func() *shape { return d.expression(d.Intn(5)) }
	switch pick {
	case 0, 1:
		return variable(d.name(), 1+d.Intn(3), d.list(1, value)...)
	case 2:
		return set(d.name(), value())
	case 3:
		return setAt(d.name(), value(), value())
	case 4:
		return of(api.NodeCallStmt, call(d.name(), d.list(3, value)...))
	case 5:
		return of([]int{api.NodePrint, api.NodePanic}[d.Intn(2)], value())
	case 6:
		return of(api.NodeReturn, d.list(1, value)...)
	case 7, 8:
		return of([]int{api.NodeBreak, api.NodeContinue}[d.Intn(2)])
	case 9, 10:
		return d.block(deep - 1)
	case 11, 12:
		return of(api.NodeFor, append(d.list(1, value), d.block(deep-1))...)
	}
	return d.condition(deep)
}

func (d drawn) condition(deep int) *shape {
	s := of(api.NodeIf, d.expression(3), d.block(deep-1))
	switch d.Intn(3) {
	case 1:
		s.kids = append(s.kids, d.block(deep-1))
	case 2:
		s.kids = append(s.kids, d.condition(deep-1))
	}
	return s
}

func (d drawn) block(deep int) *shape {
	return block(d.list(3, func() *shape { return d.statement(deep) })...)
}

// tree draws a tree, with any places.
func (d drawn) tree() api.Tree {
	t := flat(d.list(3, func() *shape {
		kids := d.list(3, func() *shape { return param(d.name(), 1+d.Intn(3)) })
		return function(d.name(), append(kids, d.block(3))...).decl(d.Intn(4))
	})...)
	for i := range t.Nodes {
		n := &t.Nodes[i]
		n.At = d.Intn(100) - 50
		switch n.Kind {
		case api.NodeFunc:
			n.Where, n.Close = d.Intn(100)-50, d.Intn(100)-50
		case api.NodeParam, api.NodeVar, api.NodeSet, api.NodeSetAt, api.NodeName, api.NodeCall, api.NodeBinary:
			n.Where = d.Intn(100) - 50
		}
	}
	return t
}

// textOf is a tree's text, or the error in words.
func textOf(t api.Tree) string {
	b, err := tree.Print(t)
	if err != api.OK {
		return err.Error()
	}
	return string(b)
}
