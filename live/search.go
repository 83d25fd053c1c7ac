package live

import "slices"

// width is how many registers are searched for together. Rows with a bit for each register would be too much to keep where there are very many of both registers and blocks.
const width = 256

// search goes from the blocks that ask for registers back to those that set them.
type search struct {
	asked []*register
	from  [][]int // the blocks that lead to each one
	todo  queue   // blocks ahead of which more is live than when those that lead to them were told last

	// of a band of registers, each a number from 0 on:
	ahead, behind rows // those that are live ahead of each block, behind it
	sets          rows // those that each block sets
	draft         row  // a row that is worked on
	met           row  // the blocks ahead of which or behind which something is live
}

func searchOf(w *way) *search {
	n, asked := len(w.to), w.asked()
	wide := min(len(asked), width)
	s := &search{asked: asked, from: make([][]int, n), todo: queueOf(w.to), met: rowFor(n)}
	s.ahead, s.behind, s.sets, s.draft = rowsFor(n, wide), rowsFor(n, wide), rowsFor(n, wide), rowFor(wide)
	for b, to := range w.to {
		for _, next := range to {
			s.from[next] = append(s.from[next], b)
		}
	}
	return s
}

// bands goes over the registers that are asked for, some at a time, with the blocks, rising, that they meet.
func (s *search) bands(yield func(band []*register, met []int) bool) {
	for band := range slices.Chunk(s.asked, width) {
		s.begin(band)
		s.settle()
		if !yield(band, slices.Collect(s.met.all)) {
			return
		}
		s.forget(band)
	}
}

func (s *search) begin(band []*register) {
	for i, r := range band {
		for _, b := range r.setters {
			s.sets.of(b).put(i)
		}
		for _, b := range r.askers {
			s.ahead.of(b).put(i)
			s.met.put(b)
			s.todo.put(b)
		}
	}
}

func (s *search) settle() {
	for b, is := s.todo.take(); is; b, is = s.todo.take() {
		for _, p := range s.from[b] {
			s.lead(p, b)
		}
	}
}

// lead: what is live ahead of a block is live behind one that leads to it, and ahead of that, too, but for what that sets.
func (s *search) lead(from, to int) {
	if !s.behind.of(from).join(s.ahead.of(to)) {
		return
	}
	s.met.put(from)
	copy(s.draft, s.behind.of(from))
	s.draft.without(s.sets.of(from))
	if s.ahead.of(from).join(s.draft) {
		s.todo.put(from)
	}
}

// forget makes the search ready for another band. It goes over the blocks alone that this one has met: where there are many blocks, there may be many bands too.
func (s *search) forget(band []*register) {
	for b := range s.met.all {
		clear(s.ahead.of(b))
		clear(s.behind.of(b))
	}
	clear(s.met)
	for _, r := range band {
		for _, b := range r.setters {
			clear(s.sets.of(b))
		}
	}
}
