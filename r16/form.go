package r16

import (
	"math"

	"quern/api"
	"quern/names"
)

// hasForm tells whether it is code.
func hasForm(c api.Code) bool {
	if !isCut(c) || !names.All(c.Funcs, func(f api.RFunc) string { return f.Name }) || !mainFits(c) {
		return false
	}
	for _, f := range c.Funcs {
		if !functionFits(c, f) {
			return false
		}
	}
	return true
}

func within(n, least, most int) bool { return least <= n && n <= most }

// isCut tells whether the functions cut the instructions in order, with nothing between them and nothing left.
func isCut(c api.Code) bool {
	next := 0
	for _, f := range c.Funcs {
		if f.First != next || !within(f.Count, 1, len(c.Ins)-next) { // Count is held against what is left: a sum with it could leave int64
			return false
		}
		next += f.Count
	}
	return next == len(c.Ins)
}

func mainFits(c api.Code) bool {
	return within(c.Main, 0, len(c.Funcs)-1) && c.Funcs[c.Main].Params == 0
}

// functionFits asks of a function, whose instructions are there, all but its name.
func functionFits(c api.Code, f api.RFunc) bool {
	if !within(f.Frame, 2, api.MaxStack) || !within(f.Params, 0, api.MaxParams) {
		return false
	}
	list := c.Ins[f.First : f.First+f.Count]
	for _, x := range list {
		least, most := NumbersOf(x.Op, f, len(c.Funcs))
		if !registersFit(x) || !within(x.N, least, most) {
			return false
		}
	}
	return IsLast(list[f.Count-1].Op)
}

// IsLast tells whether nothing goes on behind an instruction of that Op: such a one ends each function.
func IsLast(op int) bool { return op == api.RJmp || op == api.RRet || op == api.RTrap }

// registersFit tells whether there is such an Op, and an instruction's registers are registers where the Op has them, and 0 where it has none.
func registersFit(x api.Ins) bool {
	count := RegistersOf(x.Op)
	if count == NoOp {
		return false
	}
	for i, register := range [...]int{x.A, x.B, x.C} {
		if i < count && !within(register, 0, api.Registers-1) || i >= count && register != 0 {
			return false
		}
	}
	return true
}

// NoOp is what RegistersOf tells of a number that is none of an Op.
const NoOp = -1

// RegistersOf tells how many registers an Op has: of A, B and C the first ones.
func RegistersOf(op int) int {
	switch op {
	case api.RJmp, api.RCall, api.RRet:
		return 0
	case api.RLdi, api.RBz, api.RBnz, api.RLds, api.RSts, api.RTrapZ, api.RTrapN, api.RTrap, api.RInp, api.ROutI, api.ROutB:
		return 1
	case api.RMov, api.RNeg, api.RInv, api.RNot, api.RAlloc, api.RLen, api.RTrapU:
		return 2
	case api.RAdd, api.RSub, api.RMul, api.RDiv, api.RRem, api.RAnd, api.ROr, api.RXor, api.RBic,
		api.RShl, api.RShr, api.REq, api.RNe, api.RLt, api.RLe, api.RLdx, api.RStx:
		return 3
	}
	return NoOp
}

// HasNumber tells whether an Op has an N.
func HasNumber(op int) bool {
	switch op {
	case api.RLdi, api.RJmp, api.RBz, api.RBnz, api.RLds, api.RSts, api.RCall, api.RTrapZ, api.RTrapN, api.RTrapU, api.RTrap:
		return true
	}
	return false
}

// NumbersOf tells the least and the most that N may be in an instruction of the function f, one of so many functions; where the Op has no N, it is 0.
func NumbersOf(op int, f api.RFunc, functions int) (least, most int) {
	switch op {
	case api.RLdi:
		return math.MinInt, math.MaxInt
	case api.RJmp, api.RBz, api.RBnz:
		return f.First, f.First + f.Count - 1
	case api.RLds, api.RSts:
		return wordCaller + 1, f.Frame - 1
	case api.RCall:
		return 0, functions - 1
	case api.RTrapZ, api.RTrapN, api.RTrapU:
		return api.PanicDivide, api.PanicInput
	case api.RTrap:
		return api.PanicDivide, api.PanicUser
	}
	return 0, 0
}
