package ssa

import "quern/api"

// shape: how many Args an Op has, of which types, and its own Type; as far as the Op alone tells it.
type shape struct {
	count int
	args  [3]int
	gives int
}

func isOp(op int) bool { return api.InsConst <= op && op <= api.InsParam && op != api.InsMove }

func isType(t int) bool { return api.TypeInt <= t && t <= api.TypeInts }

func isTypeOrNone(t int) bool { return t == api.TypeNone || isType(t) }

// shapeOf tells of Const, Call, Phi and Param nothing: what they ask hangs on more than the Op. Of Eq and Ne it tells no types of Args.
func shapeOf(op int) shape {
	const num, truth, list = api.TypeInt, api.TypeBool, api.TypeInts
	switch op {
	case api.InsAdd, api.InsSub, api.InsMul, api.InsDiv, api.InsRem,
		api.InsAnd, api.InsOr, api.InsXor, api.InsBic, api.InsShl, api.InsShr:
		return shape{2, [3]int{num, num}, num}
	case api.InsEq, api.InsNe:
		return shape{count: 2, gives: truth}
	case api.InsLt, api.InsLe:
		return shape{2, [3]int{num, num}, truth}
	case api.InsNeg, api.InsInv:
		return shape{1, [3]int{num}, num}
	case api.InsNot:
		return shape{1, [3]int{truth}, truth}
	case api.InsLen:
		return shape{1, [3]int{list}, num}
	case api.InsLoad:
		return shape{2, [3]int{list, num}, num}
	case api.InsStore:
		return shape{3, [3]int{list, num, num}, api.TypeNone}
	case api.InsAlloc:
		return shape{1, [3]int{num}, list}
	case api.InsInput:
		return shape{gives: num}
	case api.InsPrintInt, api.InsTrapZero, api.InsTrapNeg:
		return shape{1, [3]int{num}, api.TypeNone}
	case api.InsPrintBool:
		return shape{1, [3]int{truth}, api.TypeNone}
	case api.InsTrapBound:
		return shape{2, [3]int{num, num}, api.TypeNone}
	}
	return shape{}
}
