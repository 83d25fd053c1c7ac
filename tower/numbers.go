package tower

import "quern/api"

// numbers are those of P2503: how many steps of the level above may make up for one of a level's own, and how many of its own for one of the level above.
func (t *tower) numbers(level int) (a, b int) {
	values, blocks, _ := ofSSA(t.built)
	wanted, _, phis := ofSSA(t.clean)
	moves, parts := ofLIR(t.lir)
	switch level {
	case levelBuilt:
		return 4*t.program.Nodes + 4, 2 + values + blocks
	case levelClean:
		return 1 + values - wanted, 1
	case levelLIR:
		return 2 + phis, 2 + moves + parts - blocks
	case levelALIR:
		return 1, 1
	}
	return 2 + ofALIR(t.alir), 64
}

// ofSSA tells how many values and blocks there are, and how many of the values are phis.
func ofSSA(s api.SSA) (values, blocks, phis int) {
	for _, f := range s.Funcs {
		values += len(f.Values)
		blocks += len(f.Blocks)
		for _, b := range f.Blocks {
			phis += len(b.Phis)
		}
	}
	return values, blocks, phis
}

// ofLIR tells how many moves and blocks there are.
func ofLIR(l api.LIR) (moves, blocks int) {
	for _, f := range l.Funcs {
		blocks += len(f.Blocks)
		for _, b := range f.Blocks {
			for _, x := range b.Body {
				if x.Op == api.InsMove {
					moves++
				}
			}
		}
	}
	return moves, blocks
}

// ofALIR tells how many instructions and ends of blocks there are.
func ofALIR(a api.ALIR) int {
	n := 0
	for _, f := range a.Funcs {
		for _, b := range f.Blocks {
			n += len(b.Body) + 1
		}
	}
	return n
}
