package ssarun

import (
	"slices"

	"quern/api"
)

// activation has a place: a block, and behind how many of its values.
type activation struct {
	function      *api.SFunc
	block, behind int
	first         int // where its numbers begin
}

func (a activation) in() *api.Block { return &a.function.Blocks[a.block] }

// begin begins an activation of a function. It is the one that runs from now on.
func (m *Machine) begin(function int, arguments []int) {
	m.here = activation{function: &m.functions[function], first: len(m.numbers)}
	for i, param := range m.here.function.Params {
		m.set(param, arguments[i])
	}
	m.told.Deep(len(m.waiting) + 1)
}

// back ends the activation that runs; the one that called it goes on behind its Call.
func (m *Machine) back(value int) {
	last := len(m.waiting) - 1
	if last < 0 {
		m.told.Exit()
		return
	}
	ended := m.numbers[m.here.first:]
	m.numbers = m.numbers[:m.here.first]
	m.here = m.waiting[last]
	m.waiting = m.waiting[:last]
	if value >= 0 {
		m.set(m.lastCall(), ended[value])
	}
}

// lastCall is the Call behind which the activation that runs is.
func (m *Machine) lastCall() int {
	block := m.here.in()
	return block.Body[m.here.behind-1-len(block.Phis)]
}

// leave goes where a block's end leads.
func (m *Machine) leave(t api.Term) {
	switch t.Kind {
	case api.TermJump:
		m.enter(t.To, 0)
	case api.TermBranch:
		way := 0
		if m.number(t.Value) == 0 {
			way = 1
		}
		m.enter(t.To, way)
	case api.TermReturn:
		m.back(t.Value)
	case api.TermPanic:
		m.panics(api.PanicUser, m.number(t.Value))
	}
}

// enter comes to the beginning of a block by one of the ways. What its Phis get is read here, ahead of setting any.
func (m *Machine) enter(to []int, way int) {
	from := m.here.block
	m.here.block, m.here.behind = to[way], 0
	block := m.here.in()
	at, _ := slices.BinarySearch(block.Preds, from)
	if way == 1 && to[0] == to[1] {
		at++ // it stands there twice, the first time for the other way
	}
	m.phis = m.phis[:0]
	for _, phi := range block.Phis {
		m.phis = append(m.phis, m.number(m.here.function.Values[phi].Args[at]))
	}
}

// number is the number that a value has in the activation that runs.
func (m *Machine) number(value int) int { return m.numbers[m.here.first+value] }

// set gives a value its number. An activation takes no more memory than it needs for the values that were made: it may be one of many.
func (m *Machine) set(value, number int) {
	place := m.here.first + value
	if place >= len(m.numbers) {
		m.numbers = append(m.numbers, make([]int, place+1-len(m.numbers))...)
	}
	m.numbers[place] = number
}
