package sample

import "quern/api"

// Parted tells whether each list of a program, spare room included, is memory of its own. The program is spoilt by it.
func Parted(s api.SSA) bool {
	var values [][]api.Value
	var blocks [][]api.Block
	for _, f := range s.Funcs {
		values, blocks = append(values, f.Values), append(blocks, f.Blocks)
	}
	return apart(Lists(roomToo(s)), func(n int) int { return n }, func(n int) int { return n }) &&
		apart(values, func(n int) api.Value { return api.Value{Op: n} }, func(v api.Value) int { return v.Op }) &&
		apart(blocks, func(n int) api.Block { return api.Block{Term: api.Term{Kind: n}} }, func(b api.Block) int { return b.Term.Kind })
}

// PartedLIR is Parted of LIR.
func PartedLIR(l api.LIR) bool {
	var bodies [][]api.LIns
	var blocks [][]api.LBlock
	for _, f := range l.Funcs {
		blocks = append(blocks, f.Blocks)
		for _, b := range f.Blocks[:cap(f.Blocks)] {
			bodies = append(bodies, b.Body)
		}
	}
	return apart(LIRLists(l), func(n int) int { return n }, func(n int) int { return n }) &&
		apart(bodies, func(n int) api.LIns { return api.LIns{Op: n} }, func(x api.LIns) int { return x.Op }) &&
		apart(blocks, func(n int) api.LBlock { return api.LBlock{Term: api.Term{Kind: n}} }, func(b api.LBlock) int { return b.Term.Kind })
}

// PartedALIR is Parted of ALIR.
func PartedALIR(a api.ALIR) bool {
	var bodies [][]api.AIns
	var blocks [][]api.ABlock
	for _, f := range a.Funcs {
		blocks = append(blocks, f.Blocks)
		for _, b := range f.Blocks[:cap(f.Blocks)] {
			bodies = append(bodies, b.Body)
		}
	}
	numbers, places := ALIRLists(a)
	return ApartLists(numbers) &&
		apart(places, func(n int) api.Loc { return api.Loc{N: n} }, func(p api.Loc) int { return p.N }) &&
		apart(bodies, func(n int) api.AIns { return api.AIns{Op: n} }, func(x api.AIns) int { return x.Op }) &&
		apart(blocks, func(n int) api.ABlock { return api.ABlock{Term: api.ATerm{Kind: n}} }, func(b api.ABlock) int { return b.Term.Kind })
}

// apart writes over each list, up to the end of its room, what tells its number; and then looks whether all still tell theirs.
func apart[T any](lists [][]T, mark func(number int) T, told func(x T) int) bool {
	for i, list := range lists {
		list = list[:cap(list)]
		for k := range list {
			list[k] = mark(i)
		}
	}
	for i, list := range lists {
		for _, x := range list[:cap(list)] {
			if told(x) != i {
				return false
			}
		}
	}
	return true
}

// ApartLists tells whether no two lists share memory, spare room included. They are spoilt by it.
func ApartLists(lists [][]int) bool {
	return apart(lists, func(n int) int { return n }, func(n int) int { return n })
}
