package emit

import "quern/api"

func (w *writer) instruction(x api.AIns) {
	switch x.Op {
	case api.InsMove:
		w.move(api.Move{To: x.Dst, From: x.Args[0]})
	case api.InsCall:
		w.call(x)
	default:
		w.operation(x)
	}
}

// operation puts what is one instruction of R16, with what brings its Args from slots, and its result to one.
func (w *writer) operation(x api.AIns) {
	var args [3]int
	for i, place := range x.Args {
		args[i] = w.brought(place, spare+i)
	}
	made := api.Ins{Op: opOf(x.Op), N: x.Imm}
	switch {
	case x.Dst != api.Loc{}:
		made.A, made.B, made.C = resultOf(x.Dst), args[0], args[1]
	case x.Op == api.InsStore: // what is stored stands ahead of where it goes
		made.A, made.B, made.C = args[2], args[0], args[1]
	default:
		made.A, made.B = args[0], args[1]
	}
	w.put(made)
	if x.Dst.Kind == api.LocSlot {
		w.keep(x.Dst, made.A)
	}
}

// resultOf is the register that an instruction sets whose result goes to a place.
func resultOf(dst api.Loc) int {
	if dst.Kind == api.LocReg {
		return dst.N
	}
	return spare
}

// like is by how much the numbers of RAdd to RNot stand behind those of InsAdd to InsNot, which have the same order.
const like = api.RAdd - api.InsAdd

// opOf is the Op of R16 that does what one of ALIR does.
func opOf(op int) int {
	switch op {
	case api.InsConst:
		return api.RLdi
	case api.InsLen:
		return api.RLen
	case api.InsLoad:
		return api.RLdx
	case api.InsStore:
		return api.RStx
	case api.InsAlloc:
		return api.RAlloc
	case api.InsInput:
		return api.RInp
	case api.InsPrintInt:
		return api.ROutI
	case api.InsPrintBool:
		return api.ROutB
	case api.InsTrapZero:
		return api.RTrapZ
	case api.InsTrapNeg:
		return api.RTrapN
	case api.InsTrapBound:
		return api.RTrapU
	}
	return op + like
}
