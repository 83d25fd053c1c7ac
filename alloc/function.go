package alloc

import (
	"quern/api"
	"quern/order"
)

// allocated is a function of LIR, which Check takes, over places.
func allocated(f api.LFunc) api.AFunc {
	line := order.Line(to(f))
	stands := make([]int, len(line)) // where each block stands in the line
	for i, b := range line {
		stands[b] = i
	}
	p, slots := placesOf(f, line)
	made := api.AFunc{Name: f.Name, Params: p.all(f.Params), Result: f.Result, Slots: slots}
	for _, b := range line {
		made.Blocks = append(made.Blocks, p.block(f.Blocks[b], stands))
	}
	save(made)
	return made
}

// to tells where each block leads.
func to(f api.LFunc) [][]int {
	list := make([][]int, len(f.Blocks))
	for i, b := range f.Blocks {
		list[i] = b.Term.To
	}
	return list
}

// block is a block over places, which leads to where the blocks stand to which it led. Its calls save nothing as yet.
func (p places) block(b api.LBlock, stands []int) api.ABlock {
	var made api.ABlock
	for _, x := range b.Body {
		made.Body = append(made.Body, api.AIns{Op: x.Op, Imm: x.Imm, Dst: p[x.Dst], Args: p.all(x.Args)})
	}
	made.Term = api.ATerm{Kind: b.Term.Kind, Value: p[b.Term.Value]}
	for _, next := range b.Term.To {
		made.Term.To = append(made.Term.To, stands[next])
	}
	return made
}
