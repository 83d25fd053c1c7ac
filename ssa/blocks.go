package ssa

import (
	"slices"

	"quern/api"
	"quern/dom"
)

// to tells where each block leads, as package dom asks for it.
func (f function) to() [][]int {
	to := make([][]int, len(f.Blocks))
	for b, block := range f.Blocks {
		to[b] = block.Term.To
	}
	return to
}

func (f function) predsFit() bool {
	from := make([][]int, len(f.Blocks))
	for b, to := range f.to() {
		for _, next := range to {
			from[next] = append(from[next], b)
		}
	}
	return len(from[0]) == 0 && every(f.Blocks, func(b int, block api.Block) bool {
		return slices.Equal(block.Preds, from[b])
	})
}

func (f function) allReached() bool {
	return every(dom.Reach(f.to()), func(_ int, reached bool) bool { return reached })
}

func (f function) phisFit() bool {
	return len(f.Blocks[0].Phis) == 0 && every(f.Blocks, func(_ int, block api.Block) bool {
		return every(block.Phis, func(_, v int) bool {
			return f.isPhi(v) && len(f.Values[v].Args) == len(block.Preds)
		}) && every(block.Body, func(_, v int) bool { return !f.isPhi(v) })
	})
}

func (f function) isPhi(v int) bool { return f.Values[v].Op == api.InsPhi }

func (f function) eachStandsOnce() bool {
	often := make([]int, len(f.Values))
	count := func(list []int) {
		for _, v := range list {
			often[v]++
		}
	}
	count(f.Params)
	for _, block := range f.Blocks {
		count(block.Phis)
		count(block.Body)
	}
	return every(often, func(_, n int) bool { return n == 1 })
}
