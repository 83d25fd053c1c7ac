package dom

// walk: the blocks to which there is a way, in the order in which a walk from block 0 meets them that always goes on from the last block it has met, as long as that one leads to a block not met as yet. A block's place in that order stands for it: of two blocks on one way of the walk the outer one has the lesser place.
type walk struct {
	blocks []int
	places map[int]int // of each block that was met
	met    []int       // for each place the place from which it was met; -1 for the first
}

// branch: a block on the walk's way, and how many of its exits were tried.
type branch struct{ block, tried int }

func walkOf(to [][]int) *walk {
	w := &walk{places: map[int]int{}}
	w.meet(0, -1)
	open := []branch{{}}
deeper:
	for len(open) > 0 {
		last := &open[len(open)-1]
		for _, b := range to[last.block][last.tried:] {
			last.tried++
			if _, old := w.places[b]; !old {
				w.meet(b, w.places[last.block])
				open = append(open, branch{block: b})
				continue deeper
			}
		}
		open = open[:len(open)-1]
	}
	return w
}

func (w *walk) meet(block, from int) {
	w.places[block] = len(w.blocks)
	w.blocks = append(w.blocks, block)
	w.met = append(w.met, from)
}

// sources tells for each place the places that lead there. (Blocks to which there is no way have no place: they count for nothing.)
func sources(w *walk, to [][]int) [][]int {
	list := make([][]int, len(w.blocks))
	for at, b := range w.blocks {
		for _, next := range to[b] {
			place := w.places[next]
			list[place] = append(list[place], at)
		}
	}
	return list
}
