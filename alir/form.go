package alir

import (
	"slices"

	"quern/api"
	"quern/lir"
)

// hasForm tells whether a program has the form of ALIR: that of LIR with places for registers, and of what it has beside LIR, slots and saves.
func hasForm(a api.ALIR) bool {
	for _, f := range a.Funcs {
		if f.Slots < 0 || f.Slots > api.MaxRegs || !savesFit(f) {
			return false
		}
	}
	return lir.Fits(numbered(a))
}

func savesFit(f api.AFunc) bool {
	for _, b := range f.Blocks {
		for _, x := range b.Body {
			if len(x.Saves) > 0 && x.Op != api.InsCall || !areRising(x.Saves) {
				return false
			}
		}
	}
	return true
}

// areRising tells whether these are numbers of registers, each above the one ahead of it.
func areRising(saves []int) bool {
	next := 0 // the least that may follow
	for _, register := range saves {
		if register < next || register >= api.Allocated {
			return false
		}
		next = register + 1
	}
	return true
}

// What number gives that is no place's.
const (
	none    = -1 // as LIR has it
	nowhere = -2 // neither a register of LIR nor none
)

// number numbers the places of a function with so many slots, registers first.
func number(place api.Loc, slots int) int {
	switch {
	case place == api.Loc{}:
		return none
	case place.Kind == api.LocReg && place.N >= 0 && place.N < api.Allocated:
		return place.N
	case place.Kind == api.LocSlot && place.N >= 0 && place.N < slots:
		return api.Allocated + place.N
	}
	return nowhere
}

func numbers(places []api.Loc, slots int) []int {
	list := make([]int, len(places))
	for i, place := range places {
		list[i] = number(place, slots)
	}
	return list
}

// numbered is a program over numbers of places, which are registers of LIR. It lacks the saves.
func numbered(a api.ALIR) api.LIR {
	l := api.LIR{Main: a.Main}
	for _, f := range a.Funcs {
		made := api.LFunc{Name: f.Name, Params: numbers(f.Params, f.Slots), Regs: api.Allocated + f.Slots, Result: f.Result}
		for _, b := range f.Blocks {
			made.Blocks = append(made.Blocks, numberedBlock(b, f.Slots))
		}
		l.Funcs = append(l.Funcs, made)
	}
	return l
}

func numberedBlock(b api.ABlock, slots int) api.LBlock {
	made := api.LBlock{Term: api.Term{Kind: b.Term.Kind, Value: number(b.Term.Value, slots), To: b.Term.To}}
	for _, x := range b.Body {
		made.Body = append(made.Body, api.LIns{Op: x.Op, Dst: number(x.Dst, slots), Imm: x.Imm, Args: numbers(x.Args, slots)})
	}
	return made
}

// copied makes new memory of all that a run looks at.
func copied(functions []api.AFunc) []api.AFunc {
	list := slices.Clone(functions)
	for i := range list {
		f := &list[i]
		f.Params, f.Blocks = slices.Clone(f.Params), slices.Clone(f.Blocks)
		for b := range f.Blocks {
			block := &f.Blocks[b]
			block.Body, block.Term.To = slices.Clone(block.Body), slices.Clone(block.Term.To)
			for k := range block.Body {
				x := &block.Body[k]
				x.Args, x.Saves = slices.Clone(x.Args), slices.Clone(x.Saves)
			}
		}
	}
	return list
}
