package alir

import "quern/api"

// frame is what an activation has of its own: how far it has come, and what its places hold.
type frame struct {
	function  *api.AFunc
	block     *api.ABlock
	behind    int // how many of the block's instructions have been begun
	registers [api.Allocated]int
	slots     map[int]int // those that were set: others take no memory, as a function may have very many of them, and very many activations
}

// unset is what a place holds that was not set, or was lost in a call.
const unset = -1

// frameOf is the frame of an activation of a function at its beginning.
func frameOf(f *api.AFunc) frame {
	made := frame{function: f, block: &f.Blocks[0]}
	made.keep(nil)
	return made
}

// get is what a place holds; of none it is unset.
func (f *frame) get(place api.Loc) int {
	switch place.Kind {
	case api.LocReg:
		return f.registers[place.N]
	case api.LocSlot:
		if number, is := f.slots[place.N]; is {
			return number
		}
	}
	return unset
}

// set lets a place hold a number; of none it does nothing.
func (f *frame) set(place api.Loc, number int) {
	switch place.Kind {
	case api.LocReg:
		f.registers[place.N] = number
	case api.LocSlot:
		if f.slots == nil {
			f.slots = map[int]int{}
		}
		f.slots[place.N] = number
	}
}

// keep lets all registers but these be unset.
func (f *frame) keep(saves []int) {
	held := f.registers
	for register := range f.registers {
		f.registers[register] = unset
	}
	for _, register := range saves {
		f.registers[register] = held[register]
	}
}

// enter goes to the beginning of a block.
func (f *frame) enter(block int) { f.block, f.behind = &f.function.Blocks[block], 0 }

// last is the instruction that was begun last in the block.
func (f *frame) last() *api.AIns { return &f.block.Body[f.behind-1] }
