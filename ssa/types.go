package ssa

import "quern/api"

func (f function) typesFit() bool {
	return every(f.Values, f.typeFits) && every(f.Blocks, func(_ int, b api.Block) bool { return f.termTypeFits(b.Term) })
}

// is tells whether a value fits where that type is to be: where none is to be nothing does.
func (f function) is(v, t int) bool { return isType(t) && f.Values[v].Type == t }

func (f function) typeFits(_ int, v api.Value) bool {
	switch v.Op {
	case api.InsConst:
		return constantFits(v)
	case api.InsEq, api.InsNe:
		return v.Type == api.TypeBool && f.is(v.Args[0], f.Values[v.Args[1]].Type)
	case api.InsCall:
		return f.callFits(v)
	case api.InsPhi:
		return isType(v.Type) && every(v.Args, func(_, arg int) bool { return f.is(arg, v.Type) })
	case api.InsParam:
		return isType(v.Type)
	}
	may := shapeOf(v.Op)
	return v.Type == may.gives && every(v.Args, func(i, arg int) bool { return f.is(arg, may.args[i]) })
}

func constantFits(v api.Value) bool {
	switch v.Type {
	case api.TypeInt:
		return true
	case api.TypeBool:
		return v.Imm == 0 || v.Imm == 1
	}
	return v.Type == api.TypeInts && v.Imm == 0
}

func (f function) callFits(v api.Value) bool {
	called := f.all[v.Imm]
	return v.Type == called.Result && every(v.Args, func(i, arg int) bool {
		return f.is(arg, called.Values[called.Params[i]].Type)
	})
}

func (f function) termTypeFits(t api.Term) bool {
	switch {
	case t.Kind == api.TermBranch:
		return f.is(t.Value, api.TypeBool)
	case t.Kind == api.TermPanic:
		return f.is(t.Value, api.TypeInt)
	case t.Value != -1:
		return f.is(t.Value, f.Result)
	}
	return true
}
