package build

import (
	"cmp"
	"slices"

	"quern/api"
	"quern/ssa"
)

// finished tells the function as it is answered: without trivial Phis, the values by their numbers in the end.
func (f *function) finished() api.SFunc {
	stands := withoutTrivials(f.values)
	s := api.SFunc{Name: f.root.Name, Result: f.root.Decl}
	for i := range len(f.root.Kids) - 1 {
		s.Params = append(s.Params, i)
	}
	for _, value := range f.values {
		value.Args = standing(stands, value.Args)
		s.Values = append(s.Values, value)
	}
	for _, b := range f.blocks {
		s.Blocks = append(s.Blocks, b.finished(stands))
	}
	return ssa.Numbered(s)
}

func (b *block) finished(stands []int) api.Block {
	t := api.Term{Kind: b.kind, Value: none, To: numbersOf(b.to)}
	if b.value != none {
		t.Value = stands[b.value]
	}
	return api.Block{Phis: b.phisLeft(stands), Body: b.body, Preds: numbersOf(b.from), Term: t}
}

// phisLeft tells the values of a block's Phis that were not taken away, in the order in which their variables are declared.
func (b *block) phisLeft(stands []int) []int {
	slices.SortFunc(b.phis, func(x, y phi) int { return cmp.Compare(x.variable, y.variable) })
	var left []int
	for _, p := range b.phis {
		if stands[p.value] == p.value {
			left = append(left, p.value)
		}
	}
	return left
}

// standing tells, for each value, the one that stands for it.
func standing(stands, values []int) []int {
	var list []int
	for _, v := range values {
		list = append(list, stands[v])
	}
	return list
}

func numbersOf(blocks []*block) []int {
	var list []int
	for _, b := range blocks {
		list = append(list, b.number)
	}
	return list
}
