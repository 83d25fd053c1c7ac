package emit

import "quern/api"

// Registers that hold no values of ALIR.
const (
	spare     = api.Allocated // and those behind it: what is brought from slots, what goes to one, what a call gives
	temporary = spare + 3     // by way of which moves go that turn in a circle: no other instruction uses it
)

// writer puts the instructions of functions, one function behind the other.
type writer struct {
	ins    []api.Ins
	frame  frame       // of the function at hand
	places map[int]int // and of its blocks, by their numbers: where each one's first instruction stands
}

// put puts instructions behind all that were put.
func (w *writer) put(list ...api.Ins) { w.ins = append(w.ins, list...) }

// brought is the register in which a place is read: of a slot the one into which it is brought for that.
func (w *writer) brought(place api.Loc, into int) int {
	if place.Kind == api.LocReg {
		return place.N
	}
	w.put(api.Ins{Op: api.RLds, A: into, N: w.frame.slot(place)})
	return into
}

// keep sets a slot to what a register holds.
func (w *writer) keep(slot api.Loc, from int) {
	w.put(api.Ins{Op: api.RSts, A: from, N: w.frame.slot(slot)})
}
