package ssa

import "quern/api"

// Numbered tells a function in new memory, with the values that stand in its Params and blocks alone, by new numbers: those of the Params first, then block by block the Phis and the Body, as they stand. What the others use must be among them. (For the passes that make and clean SSA, whose numbers go so.)
func Numbered(f api.SFunc) api.SFunc {
	n := &numbering{numbers: make([]int, len(f.Values))}
	s := api.SFunc{Name: f.Name, Params: n.give(f.Params), Result: f.Result}
	for _, b := range f.Blocks {
		s.Blocks = append(s.Blocks, api.Block{Phis: n.give(b.Phis), Body: n.give(b.Body), Preds: copied(b.Preds)})
	}
	for i, b := range f.Blocks {
		s.Blocks[i].Term = api.Term{Kind: b.Term.Kind, Value: n.ofTerm(b.Term), To: copied(b.Term.To)}
	}
	for _, v := range n.order {
		value := f.Values[v]
		value.Args = n.ofAll(value.Args)
		s.Values = append(s.Values, value)
	}
	return s
}

type numbering struct {
	numbers []int // of each value that has its new one
	order   []int // of the new numbers: the values
}

func (n *numbering) give(values []int) []int {
	for _, v := range values {
		n.numbers[v] = len(n.order)
		n.order = append(n.order, v)
	}
	return n.ofAll(values)
}

func (n *numbering) ofAll(values []int) []int {
	list := copied(values)
	for i, v := range list {
		list[i] = n.numbers[v]
	}
	return list
}

func (n *numbering) ofTerm(t api.Term) int {
	if t.Value == -1 {
		return -1
	}
	return n.numbers[t.Value]
}

// copied makes a list anew: nil, where it is empty, so that not even spare room is shared.
func copied(list []int) []int { return append([]int(nil), list...) }
