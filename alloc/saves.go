package alloc

import (
	"slices"

	"quern/api"
	"quern/live"
)

// What number gives that is no register's.
const (
	none = -1
	slot = api.Allocated // all slots are one: nobody asks which of them are live
)

func number(place api.Loc) int {
	switch place.Kind {
	case api.LocReg:
		return place.N
	case api.LocSlot:
		return slot
	}
	return none
}

// save tells the calls of a function what they must save. A register is live just where a virtual register is whose place it is: on the ways from there to where that one is read, no other one with its place is set. So it is asked of registers what is live, which are few: of virtual ones very many may be live at very many blocks.
func save(f api.AFunc) {
	over := overRegisters(f)
	_, behind, _ := live.Live(over)
	for i, b := range f.Blocks {
		saveIn(b.Body, over.Blocks[i], behind[i])
	}
}

// overRegisters is a function of LIR that reads and sets the numbers of the places that f reads and sets.
func overRegisters(f api.AFunc) api.LFunc {
	over := api.LFunc{Result: f.Result, Regs: slot + 1}
	for _, b := range f.Blocks {
		made := api.LBlock{Term: api.Term{Kind: b.Term.Kind, Value: number(b.Term.Value), To: b.Term.To}}
		for _, x := range b.Body {
			y := api.LIns{Op: x.Op, Dst: number(x.Dst), Imm: x.Imm}
			for _, place := range x.Args {
				y.Args = append(y.Args, number(place))
			}
			made.Body = append(made.Body, y)
		}
		over.Blocks = append(over.Blocks, made)
	}
	return over
}

// saveIn goes back along a block, behind which these numbers are live.
func saveIn(body []api.AIns, over api.LBlock, behind []int) {
	var lives [slot + 1]bool
	mark := func(is bool, numbers ...int) {
		for _, n := range numbers {
			if n != none {
				lives[n] = is
			}
		}
	}
	mark(true, behind...)
	mark(true, over.Term.Value)
	for i, x := range slices.Backward(over.Body) {
		mark(false, x.Dst)
		if x.Op == api.InsCall {
			body[i].Saves = registersIn(lives[:slot])
		}
		mark(true, x.Args...)
	}
}

// registersIn are the registers that live, rising.
func registersIn(lives []bool) []int {
	var list []int
	for register, is := range lives {
		if is {
			list = append(list, register)
		}
	}
	return list
}
