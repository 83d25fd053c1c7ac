package dce

import (
	"iter"

	"quern/api"
)

// wanted tells the values of a function that are wanted, each once: those that are so by themselves or by a Term, and the Args of each one. Those whose turn is to come stand in a list, as one may want another through very many.
func wanted(f api.SFunc) iter.Seq[int] {
	return func(yield func(int) bool) {
		met := make([]bool, len(f.Values))
		var open []int
		for first := range firsts(f) {
			open = append(open, first)
			for len(open) > 0 {
				v := open[len(open)-1]
				open = open[:len(open)-1]
				if met[v] {
					continue
				}
				met[v] = true
				if !yield(v) {
					return
				}
				open = append(open, f.Values[v].Args...)
			}
		}
	}
}

// firsts tells the values that are wanted whether another value uses them or not; one that more than one Term uses as often.
func firsts(f api.SFunc) iter.Seq[int] {
	return func(yield func(int) bool) {
		for v, value := range f.Values {
			if isWanted(value.Op) && !yield(v) {
				return
			}
		}
		for _, b := range f.Blocks {
			if b.Term.Value != -1 && !yield(b.Term.Value) {
				return
			}
		}
	}
}

// isWanted tells whether values of an operation stay whoever uses them: they do something, or the caller hands them in.
func isWanted(op int) bool {
	switch op {
	case api.InsParam, api.InsStore, api.InsAlloc, api.InsInput, api.InsCall, api.InsPrintInt, api.InsPrintBool,
		api.InsTrapZero, api.InsTrapNeg, api.InsTrapBound:
		return true
	}
	return false
}
