package build

import (
	"cmp"
	"slices"

	"quern/api"
)

// numbering gives the values that are left their numbers anew.
type numbering struct {
	stands  []int // of each value the one that stands for it
	numbers []int // of each value that is left
	order   []int // of the numbers: the values
}

// finished tells the function as it is answered.
func (f *function) finished() api.SFunc {
	stands := withoutTrivials(f.values)
	n := &numbering{stands: stands, numbers: make([]int, len(stands))}
	s := api.SFunc{Name: f.root.Name, Result: f.root.Decl}
	for i := range len(f.root.Kids) - 1 {
		s.Params = append(s.Params, n.give(i))
	}
	for _, b := range f.blocks {
		s.Blocks = append(s.Blocks, api.Block{Phis: n.giveAll(b.phisLeft(stands)), Body: n.giveAll(b.body)})
	}
	for i, b := range f.blocks {
		s.Blocks[i].Preds = numbersOf(b.from)
		s.Blocks[i].Term = api.Term{Kind: b.kind, Value: n.of(b.value), To: numbersOf(b.to)}
	}
	for _, v := range n.order {
		value := f.values[v]
		value.Args = n.ofAll(value.Args)
		s.Values = append(s.Values, value)
	}
	return s
}

// phisLeft tells the values of a block's Phis that were not taken away, in the order in which their variables are declared.
func (b *block) phisLeft(stands []int) []int {
	slices.SortFunc(b.phis, func(x, y phi) int { return cmp.Compare(x.variable, y.variable) })
	var left []int
	for _, p := range b.phis {
		if stands[p.value] == p.value {
			left = append(left, p.value)
		}
	}
	return left
}

func (n *numbering) give(v int) int {
	n.numbers[v] = len(n.order)
	n.order = append(n.order, v)
	return n.numbers[v]
}

func (n *numbering) giveAll(values []int) []int {
	var list []int
	for _, v := range values {
		list = append(list, n.give(v))
	}
	return list
}

// of tells the new number of a value, or of the one that stands for it.
func (n *numbering) of(v int) int {
	if v == none {
		return none
	}
	return n.numbers[n.stands[v]]
}

func (n *numbering) ofAll(values []int) []int {
	var list []int
	for _, v := range values {
		list = append(list, n.of(v))
	}
	return list
}

func numbersOf(blocks []*block) []int {
	var list []int
	for _, b := range blocks {
		list = append(list, b.number)
	}
	return list
}
