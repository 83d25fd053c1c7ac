package live

import (
	"cmp"
	"slices"

	"quern/api"
)

// none stands where an instruction sets no register, and where the end of a block reads none.
const none = -1

// way is what is met on the way along a line. A block goes by its place in the line, from 0 on.
type way struct {
	to     [][]int // where each block leads
	begins []int   // the place at which the first instruction of each block, or its Term, reads
	ends   []int   // the place at which the Term of each block sets

	registers []register  // those that are named, as they were met
	index     map[int]int // where each of them stands there, by its number
}

// register is one that is named. Its interval reaches over the places at which it was met so far.
type register struct {
	api.Interval
	askers  []int // the blocks that read it ahead of setting it, rising
	setters []int // the blocks that set it, rising
}

// walk goes along a line that names all blocks of a formed function.
func walk(f api.LFunc, line []int) *way {
	n := len(line)
	w := &way{to: make([][]int, n), begins: make([]int, n), ends: make([]int, n), index: map[int]int{}}
	for _, p := range f.Params {
		w.meet(p, 0)
	}
	stands := make([]int, n) // where each block stands in the line
	for i, b := range line {
		stands[b] = i
	}
	place := 2
	for i, b := range line {
		w.begins[i] = place
		for _, x := range f.Blocks[b].Body {
			w.read(i, place, x.Args...)
			w.set(i, place+1, x.Dst)
			place += 2
		}
		end := f.Blocks[b].Term
		w.read(i, place, end.Value)
		w.ends[i] = place + 1
		place += 2
		for _, next := range end.To {
			w.to[i] = append(w.to[i], stands[next])
		}
	}
	return w
}

func (w *way) read(block, place int, numbers ...int) {
	for _, n := range numbers {
		if n == none {
			continue
		}
		if r := w.meet(n, place); !endsIn(r.setters, block) && !endsIn(r.askers, block) {
			r.askers = append(r.askers, block)
		}
	}
}

func (w *way) set(block, place, number int) {
	if number == none {
		return
	}
	if r := w.meet(number, place); !endsIn(r.setters, block) {
		r.setters = append(r.setters, block)
	}
}

func endsIn(blocks []int, block int) bool {
	return len(blocks) > 0 && blocks[len(blocks)-1] == block
}

// meet tells the register of that number, which is met at a place.
func (w *way) meet(number, place int) *register {
	i, known := w.index[number]
	if !known {
		i = len(w.registers)
		w.index[number] = i
		w.registers = append(w.registers, register{Interval: api.Interval{Reg: number, From: place, To: place}})
	}
	r := &w.registers[i]
	r.reach(place)
	return r
}

// reach makes the interval reach to a place.
func (r *register) reach(place int) { r.From, r.To = min(r.From, place), max(r.To, place) }

// asked are the registers that some block asks for, by rising numbers. No other one is live at the end of any block.
func (w *way) asked() []*register {
	var list []*register
	for i := range w.registers {
		if len(w.registers[i].askers) > 0 {
			list = append(list, &w.registers[i])
		}
	}
	slices.SortFunc(list, func(a, b *register) int { return cmp.Compare(a.Reg, b.Reg) })
	return list
}
