package ssa

import (
	"quern/api"
	"quern/dom"
)

// place: where a value stands: in a block, with its place in the Body; a Phi ahead of all of these. A Param stands ahead of all blocks.
type place struct{ block, at int }

// ahead stands for the block of Params and for the place of Phis.
const ahead = -1

// uses knows what P909 asks: where each value stands, and which block dominates which.
type uses struct {
	places  []place
	regions []region
}

func (f function) usesFit() bool {
	u := uses{f.places(), regions(dom.Tree(f.to()))}
	return every(f.Blocks, func(b int, block api.Block) bool {
		return every(block.Phis, func(_, phi int) bool {
			return every(f.Values[phi].Args, func(i, arg int) bool { return u.isThere(arg, block.Preds[i]) })
		}) && every(block.Body, func(at, v int) bool {
			return every(f.Values[v].Args, func(_, arg int) bool { return u.isAhead(arg, place{b, at}) })
		}) && (block.Term.Value == -1 || u.isThere(block.Term.Value, b))
	})
}

func (f function) places() []place {
	places := make([]place, len(f.Values))
	for _, v := range f.Params {
		places[v] = place{block: ahead}
	}
	for b, block := range f.Blocks {
		for _, v := range block.Phis {
			places[v] = place{b, ahead}
		}
		for at, v := range block.Body {
			places[v] = place{b, at}
		}
	}
	return places
}

// isThere asks whether a value is there at the end of a block.
func (u uses) isThere(v, block int) bool {
	stands := u.places[v].block
	return stands == ahead || u.regions[stands].holds(u.regions[block])
}

func (u uses) isAhead(v int, use place) bool {
	if u.places[v].block == use.block {
		return u.places[v].at < use.at
	}
	return u.isThere(v, use.block)
}

// region: the blocks that a block dominates, itself first, have the numbers from first on, to the one ahead of end: so that no way up has to be gone for each use.
type region struct{ first, end int }

func (r region) holds(other region) bool { return r.first <= other.first && other.first < r.end }

// regions numbers blocks, to each of which there is a way, by the tree of their dominators.
func regions(tree []int) []region {
	list := make([]region, len(tree))
	line := outerFirst(tree)
	for number, b := range line {
		list[b] = region{number, number + 1}
	}
	for i := range len(line) - 1 {
		b := line[len(line)-1-i]
		over := &list[tree[b]]
		over.end = max(over.end, list[b].end)
	}
	return list
}

// outerFirst tells the blocks, each with all that it dominates right behind it.
func outerFirst(tree []int) []int {
	kids := make([][]int, len(tree))
	for b, over := range tree {
		if over >= 0 {
			kids[over] = append(kids[over], b)
		}
	}
	line := make([]int, 0, len(tree))
	for open := []int{0}; len(open) > 0; {
		b := open[len(open)-1]
		open = append(open[:len(open)-1], kids[b]...)
		line = append(line, b)
	}
	return line
}
