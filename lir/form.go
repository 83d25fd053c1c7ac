package lir

import (
	"slices"

	"quern/api"
	"quern/names"
)

// none stands where an instruction sets no register, and where the end of a block reads none.
const none = -1

// hasForm tells whether a program has the form of LIR.
func hasForm(l api.LIR) bool { return Fits(l) && !slices.ContainsFunc(l.Funcs, hasTooMany) }

func hasTooMany(f api.LFunc) bool { return f.Regs > api.MaxRegs }

// Fits tells whether a program has the form of LIR, but that its functions may have more registers: package alir asks it of places, of which there are more.
func Fits(l api.LIR) bool {
	if !names.All(l.Funcs, func(f api.LFunc) string { return f.Name }) || !mainFits(l) {
		return false
	}
	for _, f := range l.Funcs {
		if !functionFits(f) || !callsFit(f, l.Funcs) {
			return false
		}
	}
	return true
}

func within[T any](list []T, i int) bool { return i >= 0 && i < len(list) }

func mainFits(l api.LIR) bool {
	return within(l.Funcs, l.Main) && len(l.Funcs[l.Main].Params) == 0 && l.Funcs[l.Main].Result == api.TypeNone
}

// callsFit asks of the calls what hangs on the functions that are called.
func callsFit(f api.LFunc, all []api.LFunc) bool {
	for _, b := range f.Blocks {
		for _, x := range b.Body {
			if x.Op == api.InsCall && !callFits(x, all) {
				return false
			}
		}
	}
	return true
}

func callFits(x api.LIns, all []api.LFunc) bool {
	return within(all, x.Imm) && len(x.Args) == len(all[x.Imm].Params) &&
		(x.Dst == none || all[x.Imm].Result != api.TypeNone)
}

// Formed tells whether a function has the form of one, whatever its name is and whatever it calls.
func Formed(f api.LFunc) bool { return functionFits(f) && !hasTooMany(f) }

func functionFits(f api.LFunc) bool {
	if f.Regs < 0 || !paramsFit(f) || !isTypeOrNone(f.Result) || len(f.Blocks) == 0 {
		return false
	}
	for _, b := range f.Blocks {
		for _, x := range b.Body {
			if !insFits(f, x) {
				return false
			}
		}
		if e := endOf(b.Term); e == nil || !e.fits(f) {
			return false
		}
	}
	return true
}

func isTypeOrNone(t int) bool { return api.TypeNone <= t && t <= api.TypeInts }

func isRegister(f api.LFunc, r int) bool { return r >= 0 && r < f.Regs }

func areRegisters(f api.LFunc, list []int) bool {
	return !slices.ContainsFunc(list, func(r int) bool { return !isRegister(f, r) })
}

func paramsFit(f api.LFunc) bool {
	if len(f.Params) > api.MaxParams || !areRegisters(f, f.Params) {
		return false
	}
	for i, p := range f.Params {
		if slices.Contains(f.Params[:i], p) {
			return false
		}
	}
	return true
}

func insFits(f api.LFunc, x api.LIns) bool {
	return countFits(x) && areRegisters(f, x.Args) && dstFits(f, x) && immFits(x)
}

// countFits tells whether an instruction has as many Args as its Op asks for; of what is no Op of LIR no number is right.
func countFits(x api.LIns) bool {
	switch x.Op {
	case api.InsConst, api.InsInput:
		return len(x.Args) == 0
	case api.InsNeg, api.InsInv, api.InsNot, api.InsLen, api.InsAlloc, api.InsMove,
		api.InsPrintInt, api.InsPrintBool, api.InsTrapZero, api.InsTrapNeg:
		return len(x.Args) == 1
	case api.InsAdd, api.InsSub, api.InsMul, api.InsDiv, api.InsRem, api.InsAnd, api.InsOr, api.InsXor, api.InsBic,
		api.InsShl, api.InsShr, api.InsEq, api.InsNe, api.InsLt, api.InsLe, api.InsLoad, api.InsTrapBound:
		return len(x.Args) == 2
	case api.InsStore:
		return len(x.Args) == 3
	case api.InsCall:
		return len(x.Args) <= api.MaxParams
	}
	return false
}

func dstFits(f api.LFunc, x api.LIns) bool {
	switch x.Op {
	case api.InsStore, api.InsPrintInt, api.InsPrintBool, api.InsTrapZero, api.InsTrapNeg, api.InsTrapBound:
		return x.Dst == none
	case api.InsCall:
		return x.Dst == none || isRegister(f, x.Dst)
	}
	return isRegister(f, x.Dst)
}

func immFits(x api.LIns) bool {
	switch x.Op {
	case api.InsConst:
		return true
	case api.InsCall:
		return x.Imm >= 0
	case api.InsTrapZero, api.InsTrapNeg, api.InsTrapBound:
		return api.PanicDivide <= x.Imm && x.Imm <= api.PanicInput
	}
	return x.Imm == 0
}
