package unssa

import "quern/api"

// none stands where an instruction sets no register, and where the end of a block reads none.
const none = -1

// function is one of SSA, of which LIR is made block by block.
type function struct {
	api.SFunc
	regs    int
	came    []int            // how many of the ways to each block were met
	blocks  list[api.LBlock] // for those of SSA
	between list[api.LBlock] // those that are new
}

func lowered(f api.SFunc) api.LFunc {
	made := function{SFunc: f, regs: len(f.Values), came: make([]int, len(f.Blocks))}
	for _, b := range f.Blocks {
		made.lower(b)
	}
	made.blocks.put(made.between.items...)
	return api.LFunc{Name: f.Name, Params: copied(f.Params), Regs: made.regs, Result: f.Result, Blocks: made.blocks.items}
}

// lower makes a block, and the new ones on the ways from it. What sets the Phis of a block with further Preds must not be done where a branch may go the other way, as that one may want what they had: so it stands in a block of its own.
func (f *function) lower(b api.Block) {
	var body list[api.LIns]
	for _, v := range b.Body {
		body.put(instruction(v, f.Values[v]))
	}
	end := api.Term{Kind: b.Term.Kind, Value: b.Term.Value, To: copied(b.Term.To)}
	for way, to := range b.Term.To {
		moves := f.movesTo(to)
		if end.Kind == api.TermBranch && len(f.Blocks[to].Preds) > 1 {
			end.To[way] = len(f.Blocks) + len(f.between.items)
			f.between.put(api.LBlock{Body: moves, Term: api.Term{Kind: api.TermJump, Value: none, To: []int{to}}})
		} else {
			body.put(moves...)
		}
	}
	f.blocks.put(api.LBlock{Body: body.items, Term: end})
}

func instruction(number int, v api.Value) api.LIns {
	if v.Type == api.TypeNone {
		number = none
	}
	return api.LIns{Op: v.Op, Dst: number, Imm: v.Imm, Args: copied(v.Args)}
}
