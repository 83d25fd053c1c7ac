package types

import "quern/api"

// typeNil is the type of Nil; in the answer it is TypeInts. TypeNone is the open one: it fits everywhere, and as a wanted one it wants nothing.
const typeNil = api.TypeInts + 1

func (c *checker) expression(number int) int {
	n := c.nodes[number]
	switch n.Kind {
	case api.NodeTrue, api.NodeFalse:
		return api.TypeBool
	case api.NodeNil:
		return typeNil
	case api.NodeName:
		return c.variable(number)
	case api.NodeCall:
		return c.call(number)
	case api.NodeLen:
		c.want(api.TypeInts, n.Kids[0])
	case api.NodeMake:
		c.want(api.TypeInt, n.Kids[0])
		return api.TypeInts
	case api.NodeIndex:
		c.want(api.TypeInts, n.Kids[0])
		c.want(api.TypeInt, n.Kids[1])
	case api.NodeUnary:
		return c.unary(n)
	case api.NodeBinary:
		return c.binary(n)
	}
	return api.TypeInt
}

func (c *checker) call(number int) int {
	n := c.nodes[number]
	f, ok := c.function(number)
	if !ok {
		return api.TypeNone
	}
	params := f.Kids[:len(f.Kids)-1]
	for i := range min(len(params), len(n.Kids)) {
		c.wantOrNil(c.nodes[params[i]].Decl, n.Kids[i])
	}
	if len(params) != len(n.Kids) {
		c.tell(api.ErrCount, n.At)
	}
	// A CallStmt stands right behind its one kid.
	if f.Decl == api.TypeNone && c.nodes[number+1].Kind != api.NodeCallStmt {
		c.tell(api.ErrResult, n.At)
	}
	return f.Decl
}

func (c *checker) unary(n api.Node) int {
	typ := api.TypeInt
	if n.Op == api.OpNot {
		typ = api.TypeBool
	}
	c.want(typ, n.Kids...)
	return typ
}

func (c *checker) binary(n api.Node) int {
	switch {
	case n.Op <= api.OpShr:
		c.want(api.TypeInt, n.Kids...)
		return api.TypeInt
	case n.Op <= api.OpNe:
		c.wantComparable(n.Kids[0], n.Kids[1])
	case n.Op <= api.OpGe:
		c.want(api.TypeInt, n.Kids...)
	default:
		c.want(api.TypeBool, n.Kids...)
	}
	return api.TypeBool
}

func (c *checker) want(typ int, values ...int) {
	for _, value := range values {
		if got := c.types[value]; got != typ && got != api.TypeNone && typ != api.TypeNone {
			c.tell(api.ErrType, c.nodes[value].At)
		}
	}
}

func (c *checker) wantOrNil(typ int, values ...int) {
	for _, value := range values {
		if typ != api.TypeInts || c.types[value] != typeNil {
			c.want(typ, value)
		}
	}
}

func (c *checker) wantPrintable(value int) {
	if isList(c.types[value]) {
		c.tell(api.ErrType, c.nodes[value].At)
	}
}

func (c *checker) wantComparable(left, right int) {
	l, r := c.types[left], c.types[right]
	switch {
	case l == api.TypeNone || r == api.TypeNone:
	case l == r && isList(l):
		c.tell(api.ErrType, c.nodes[left].At)
	case l != r && !(isList(l) && isList(r)):
		c.tell(api.ErrType, c.nodes[right].At)
	}
}

func isList(typ int) bool { return typ == api.TypeInts || typ == typeNil }
