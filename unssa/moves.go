package unssa

import (
	"quern/api"
	"quern/moves"
)

// movesTo tells the instructions that set the Phis of a block for the next way to it. The ways are met in the order of its Preds: from blocks by rising numbers, of a branch the way where it is true first.
func (f *function) movesTo(block int) []api.LIns {
	way := f.came[block]
	f.came[block]++
	var atOnce list[api.Move]
	for _, phi := range f.Blocks[block].Phis {
		atOnce.put(api.Move{To: register(phi), From: register(f.Values[phi].Args[way])})
	}
	return f.inSequence(atOnce.items)
}

func register(number int) api.Loc { return api.Loc{Kind: api.LocReg, N: number} }

// inSequence tells instructions for moves that are meant to be done at once. Order refuses none of them: a Phi stands once, and no value has the number of temp.
func (f *function) inSequence(atOnce []api.Move) []api.LIns {
	temp := register(len(f.Values))
	ordered, _ := moves.Order(atOnce, temp)
	var sequence list[api.LIns]
	for _, m := range ordered {
		if m.To == temp {
			f.regs = temp.N + 1
		}
		sequence.put(api.LIns{Op: api.InsMove, Dst: m.To.N, Args: []int{m.From.N}})
	}
	return sequence.items
}
