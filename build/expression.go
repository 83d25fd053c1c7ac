package build

import "quern/api"

// expression makes the value of a node, its kids' first. Of a call without a result, too, there is one: it stands for what is done.
func (f *function) expression(number int) {
	n := f.node(number)
	switch {
	case n.Kind == api.NodeName:
		f.push(f.ask(f.Means[number]))
	case n.Op == api.OpBoth, n.Op == api.OpEither:
		f.with(n.Kids[:1], func(v []int) { f.lookRight(n, v[0]) })
	default:
		f.with(n.Kids, func(v []int) { f.push(f.operation(number, v)) })
	}
}

// lookRight goes on with && or || behind its left value.
func (f *function) lookRight(n api.Node, left int) {
	right, behind := newBlock(), newBlock()
	if n.Op == api.OpBoth {
		f.close(api.TermBranch, left, right, behind)
	} else {
		f.close(api.TermBranch, left, behind, right)
	}
	f.begin(right)
	f.with(n.Kids[1:], func(v []int) {
		f.close(api.TermJump, none, behind)
		f.begin(behind)
		f.push(f.newPhiOfSign(left, v[0]))
	})
}

// operation makes of the kids' values the node's own.
func (f *function) operation(number int, v []int) int {
	n := f.node(number)
	switch n.Kind {
	case api.NodeTrue:
		return f.put(api.InsConst, n.Type, 1)
	case api.NodeCall:
		return f.put(api.InsCall, n.Type, f.places[f.Means[number]], v...)
	case api.NodeInput:
		return f.put(api.InsInput, n.Type, 0)
	case api.NodeLen:
		return f.put(api.InsLen, n.Type, 0, v...)
	case api.NodeMake:
		f.put(api.InsTrapNeg, api.TypeNone, api.PanicMake, v[0])
		return f.put(api.InsAlloc, n.Type, 0, v...)
	case api.NodeIndex:
		f.bound(v[0], v[1])
		return f.put(api.InsLoad, n.Type, 0, v...)
	case api.NodeUnary:
		return f.put(unary(n.Op), n.Type, 0, v...)
	case api.NodeBinary:
		return f.binary(n, v[0], v[1])
	}
	return f.put(api.InsConst, n.Type, n.Value) // a Num; of False and Nil it is 0
}

func unary(op int) int {
	switch op {
	case api.OpNeg:
		return api.InsNeg
	case api.OpNot:
		return api.InsNot
	}
	return api.InsInv
}

func (f *function) binary(n api.Node, l, r int) int {
	op := n.Op
	switch op {
	case api.OpDiv, api.OpRem:
		f.put(api.InsTrapZero, api.TypeNone, api.PanicDivide, r)
	case api.OpShl, api.OpShr:
		f.put(api.InsTrapNeg, api.TypeNone, api.PanicShift, r)
	case api.OpGt, api.OpGe:
		op -= api.OpGt - api.OpLt // SSA has the two others alone
		l, r = r, l
	}
	// OpAdd to OpLe go as InsAdd to InsLe do.
	return f.put(op-api.OpAdd+api.InsAdd, n.Type, 0, l, r)
}
