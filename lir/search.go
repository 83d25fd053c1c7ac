package lir

// group is 64 registers that blocks ask for, each a bit of a word. They are searched for together, and no more at a time: for all registers at once there would be too much to keep where there are many blocks.
type group struct{ askers, setters []bits }

// bits: of a block, some registers of a group.
type bits struct {
	block int
	set   uint64
}

// grouping takes registers into groups in the order in which blocks ask for them: those of one group are mostly asked for not far from one another.
type grouping struct {
	list   []group
	places []int // of each register among those that were taken, from 1 on; 0: it was not
	taken  int
}

// groups tells the registers that blocks ask for.
func (f function) groups(asked [][]int) []group {
	g := grouping{places: make([]int, f.registers)}
	for b, registers := range asked {
		for _, register := range registers {
			g.ask(b, register)
		}
	}
	for b := range f.blocks {
		for _, x := range f.blocks[b].body {
			if x.Dst != none && g.places[x.Dst] > 0 {
				in, bit := g.find(x.Dst)
				in.setters = marked(in.setters, b, bit)
			}
		}
	}
	return g.list
}

func (g *grouping) ask(block, register int) {
	if g.places[register] == 0 {
		if g.taken%64 == 0 {
			g.list = append(g.list, group{})
		}
		g.taken++
		g.places[register] = g.taken
	}
	in, bit := g.find(register)
	in.askers = marked(in.askers, block, bit)
}

// find tells the group of a register that was taken, and which bit of it it is.
func (g *grouping) find(register int) (*group, int) {
	place := g.places[register] - 1
	return &g.list[place/64], place % 64
}

// marked marks a bit of a block, which is the last one of the list or stands behind it.
func marked(list []bits, block, bit int) []bits {
	if len(list) == 0 || list[len(list)-1].block != block {
		list = append(list, bits{block: block})
	}
	list[len(list)-1].set |= 1 << bit
	return list
}

// search goes from the blocks that ask for registers of a group back to those that set them.
type search struct {
	sets  []uint64 // by each block
	asked []uint64 // of the ways to each block
	from  [][]int
	todo  []int // blocks that ask for more than when those that lead to them were asked last
	met   []int // blocks that ask for something
}

// reachesBeginning tells whether block 0, where all ways begin, asks for a register of a group.
func (s *search) reachesBeginning(g group) bool {
	for _, b := range g.setters {
		s.sets[b.block] = b.set
	}
	for _, b := range g.askers {
		s.ask(b.block, b.set)
	}
	for len(s.todo) > 0 {
		last := len(s.todo) - 1
		b := s.todo[last]
		s.todo = s.todo[:last]
		for _, ahead := range s.from[b] {
			s.ask(ahead, s.asked[b]&^s.sets[ahead])
		}
	}
	reached := s.asked[0] != 0
	s.forget(g)
	return reached
}

func (s *search) ask(block int, set uint64) {
	old := s.asked[block]
	if set&^old == 0 {
		return
	}
	if old == 0 {
		s.met = append(s.met, block)
	}
	s.asked[block] = old | set
	s.todo = append(s.todo, block)
}

// forget makes the search ready for another group. It goes over the blocks alone that this one has met: where there are many blocks, there may be many groups too.
func (s *search) forget(g group) {
	for _, b := range g.setters {
		s.sets[b.block] = 0
	}
	for _, b := range s.met {
		s.asked[b] = 0
	}
	s.met = s.met[:0]
}
