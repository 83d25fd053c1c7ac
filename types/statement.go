package types

import "quern/api"

func (c *checker) endOfFunc(n api.Node) {
	body := n.Kids[len(n.Kids)-1]
	if n.Decl != api.TypeNone && !c.ends[body] {
		c.tell(api.ErrEnds, n.Close)
	}
	c.left = c.left[1:]
}

func (c *checker) statement(number int) {
	n := c.nodes[number]
	switch n.Kind {
	case api.NodeVar:
		c.wantOrNil(n.Decl, n.Kids...)
		c.declaration(number)
	case api.NodeSet:
		c.wantOrNil(c.variable(number), n.Kids...)
	case api.NodeSetAt:
		c.want(api.TypeInt, n.Kids...)
		if decl := c.variable(number); decl != api.TypeNone && decl != api.TypeInts {
			c.tell(api.ErrType, n.At)
		}
	case api.NodePrint:
		c.wantPrintable(n.Kids[0])
	case api.NodePanic:
		c.want(api.TypeInt, n.Kids...)
	case api.NodeIf:
		c.want(api.TypeBool, n.Kids[0])
	case api.NodeFor:
		c.want(api.TypeBool, n.Kids[:len(n.Kids)-1]...)
	case api.NodeReturn:
		c.returned(n)
	case api.NodeBreak, api.NodeContinue:
		c.jump(n)
	}
}

func (c *checker) returned(n api.Node) {
	result := c.nodes[c.left[0]].Decl
	if (len(n.Kids) > 0) != (result != api.TypeNone) {
		c.tell(api.ErrReturn, n.At)
		return
	}
	c.wantOrNil(result, n.Kids...)
}

func (c *checker) jump(n api.Node) {
	inner := len(c.broken) - 1
	if inner < 0 {
		c.tell(api.ErrLoop, n.At)
	} else if n.Kind == api.NodeBreak {
		c.broken[inner] = true
	}
}

func (c *checker) terminates(n api.Node) bool {
	count := len(n.Kids)
	switch n.Kind {
	case api.NodeReturn, api.NodePanic:
		return true
	case api.NodeBlock:
		return count > 0 && c.ends[n.Kids[count-1]]
	case api.NodeIf:
		return count == 3 && c.ends[n.Kids[1]] && c.ends[n.Kids[2]]
	case api.NodeFor:
		return count == 1 && !c.broken[len(c.broken)-1]
	}
	return false
}
