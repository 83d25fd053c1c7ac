package lir

import (
	"slices"

	"quern/dom"
)

// readsUnset tells whether on some way a register is read that was not set. A block asks the ways to it for what it reads ahead of setting it, but for Params; a way on which no block sets that asks from the beginning on.
func (f function) readsUnset() bool {
	asked := f.asked()
	if !slices.ContainsFunc(asked, func(registers []int) bool { return len(registers) > 0 }) {
		return false
	}
	groups := f.groups(f.open(asked))
	s := search{sets: make([]uint64, len(f.blocks)), asked: make([]uint64, len(f.blocks)), from: f.from()}
	return slices.ContainsFunc(groups, s.reachesBeginning)
}

// asked tells for each block the registers that it asks for, one perhaps more than once.
func (f function) asked() [][]int {
	const always = -1
	known := make([]int, f.registers) // the number, from 1 on, of the last block that has set it; 0: none has
	for _, p := range f.params {
		known[p] = always
	}
	asked := make([][]int, len(f.blocks))
	for i, b := range f.blocks {
		read := func(register int) {
			if register != none && known[register] != always && known[register] != i+1 {
				asked[i] = append(asked[i], register)
			}
		}
		for _, x := range b.body {
			for _, arg := range x.Args {
				read(arg)
			}
			if x.Dst != none && known[x.Dst] != always {
				known[x.Dst] = i + 1
			}
		}
		read(b.end.reads())
	}
	return asked
}

// open tells of what blocks ask for that which no block has set through which all ways to them lead: mostly it is little, and for it alone the ways must be gone.
func (f function) open(asked [][]int) [][]int {
	below := f.below()
	open := make([][]int, len(f.blocks))
	often := make([]int, f.registers) // how many instructions of the blocks above set it
	for todo := []int{0}; len(todo) > 0; {
		last := len(todo) - 1
		b := todo[last]
		todo = todo[:last]
		if b < 0 { // all below that block were met
			f.countSets(often, ^b, -1)
			continue
		}
		for _, register := range asked[b] {
			if often[register] == 0 {
				open[b] = append(open[b], register)
			}
		}
		f.countSets(often, b, 1)
		todo = append(append(todo, ^b), below[b]...)
	}
	return open
}

func (f function) countSets(often []int, block, by int) {
	for _, x := range f.blocks[block].body {
		if x.Dst != none {
			often[x.Dst] += by
		}
	}
}

// below tells of which blocks each one is the immediate dominator.
func (f function) below() [][]int {
	below := make([][]int, len(f.blocks))
	for b, above := range dom.Tree(f.to()) {
		if above >= 0 {
			below[above] = append(below[above], b)
		}
	}
	return below
}

// from tells which blocks lead to each one.
func (f function) from() [][]int {
	from := make([][]int, len(f.blocks))
	for b, to := range f.to() {
		for _, next := range to {
			from[next] = append(from[next], b)
		}
	}
	return from
}
