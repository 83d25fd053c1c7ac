package ssa

import (
	"quern/api"
	"quern/names"
)

// formed asks P903 of the whole program.
func formed(s api.SSA) bool {
	return names.All(s.Funcs, func(f api.SFunc) string { return f.Name }) && mainFits(s) &&
		every(s.Funcs, func(_ int, f api.SFunc) bool { return function{f, s.Funcs}.formed() })
}

func mainFits(s api.SSA) bool {
	return within(s.Funcs, s.Main) && len(s.Funcs[s.Main].Params) == 0 && s.Funcs[s.Main].Result == api.TypeNone
}

func (f function) formed() bool {
	return len(f.Params) <= api.MaxParams && len(f.Values) < api.MaxRegs && len(f.Blocks) > 0 &&
		isTypeOrNone(f.Result) && every(f.Params, f.paramFits) &&
		every(f.Values, f.valueFits) && every(f.Blocks, f.blockFits)
}

func (f function) paramFits(i, number int) bool {
	return within(f.Values, number) && f.Values[number].Op == api.InsParam && f.Values[number].Imm == i
}

func (f function) valueFits(_ int, v api.Value) bool {
	return isOp(v.Op) && f.immFits(v) && f.countFits(v) && allWithin(v.Args, f.Values) && isTypeOrNone(v.Type)
}

func (f function) immFits(v api.Value) bool {
	switch v.Op {
	case api.InsConst, api.InsParam:
		return true
	case api.InsCall:
		return within(f.all, v.Imm)
	case api.InsTrapZero, api.InsTrapNeg, api.InsTrapBound:
		return api.PanicDivide <= v.Imm && v.Imm <= api.PanicInput
	}
	return v.Imm == 0
}

// countFits leans on immFits: the function that is called is there.
func (f function) countFits(v api.Value) bool {
	switch v.Op {
	case api.InsPhi:
		return true
	case api.InsCall:
		return len(v.Args) == len(f.all[v.Imm].Params)
	}
	return len(v.Args) == shapeOf(v.Op).count
}

func (f function) blockFits(_ int, b api.Block) bool {
	return every(b.Phis, f.mayStand) && every(b.Body, f.mayStand) && allWithin(b.Preds, f.Blocks) && f.termFits(b.Term)
}

func (f function) mayStand(_, number int) bool {
	return within(f.Values, number) && f.Values[number].Op != api.InsParam
}

func (f function) termFits(t api.Term) bool {
	count, uses := 0, true
	switch t.Kind {
	case api.TermJump:
		count, uses = 1, false
	case api.TermBranch:
		count = 2
	case api.TermReturn:
		uses = f.Result != api.TypeNone
	case api.TermPanic:
	default:
		return false
	}
	if len(t.To) != count || !allWithin(t.To, f.Blocks) {
		return false
	}
	if uses {
		return within(f.Values, t.Value)
	}
	return t.Value == -1
}
