package ssarun

import (
	"quern/api"
	"quern/word"
)

// operation makes a value; false: it has no number, or none as yet, or the run is over.
type operation func(m *Machine, v api.Value) (int, bool)

// table has at the number of each Op that stands in a Body its operation.
type table [api.InsTrapBound + 1]operation

func operations() table {
	t := table{
		api.InsConst:     (*Machine).constant,
		api.InsDiv:       (*Machine).divide,
		api.InsRem:       (*Machine).divide,
		api.InsShl:       (*Machine).shift,
		api.InsShr:       (*Machine).shift,
		api.InsLen:       (*Machine).length,
		api.InsLoad:      (*Machine).load,
		api.InsStore:     (*Machine).store,
		api.InsAlloc:     (*Machine).alloc,
		api.InsInput:     (*Machine).take,
		api.InsCall:      (*Machine).call,
		api.InsPrintInt:  (*Machine).printInt,
		api.InsPrintBool: (*Machine).printBool,
		api.InsTrapZero:  (*Machine).trapZero,
		api.InsTrapNeg:   (*Machine).trapNeg,
		api.InsTrapBound: (*Machine).trapBound,
	}
	for op := api.InsAdd; op <= api.InsNot; op++ {
		if t[op] == nil {
			t[op] = (*Machine).calculate
		}
	}
	return t
}

// do makes the value of that number.
func (m *Machine) do(value int) {
	v := m.here.function.Values[value]
	if number, has := m.operations[v.Op](m, v); has {
		m.set(value, number)
	}
}

// arg is the number of an Arg; 0, if there are not so many.
func (m *Machine) arg(v api.Value, i int) int {
	if i >= len(v.Args) {
		return 0
	}
	return m.number(v.Args[i])
}

// panics ends the run with a panic.
func (m *Machine) panics(kind, value int) (int, bool) {
	m.told.Panic(kind, value)
	return 0, false
}

func (m *Machine) stuck(reason int) (int, bool) {
	m.told.Stuck(reason)
	return 0, false
}

func (m *Machine) constant(v api.Value) (int, bool) { return v.Imm, true }

func (m *Machine) calculate(v api.Value) (int, bool) {
	return word.Do(v.Op, m.arg(v, 0), m.arg(v, 1))
}

func (m *Machine) divide(v api.Value) (int, bool) {
	if m.arg(v, 1) == 0 {
		return m.stuck(api.StuckZero)
	}
	return m.calculate(v)
}

func (m *Machine) shift(v api.Value) (int, bool) {
	if m.arg(v, 1) < 0 {
		return m.stuck(api.StuckShift)
	}
	return m.calculate(v)
}

func (m *Machine) length(v api.Value) (int, bool) { return m.heap.Len(m.arg(v, 0)) }

func (m *Machine) load(v api.Value) (int, bool) {
	address := m.arg(v, 0)
	if address == 0 {
		return m.stuck(api.StuckBlock)
	}
	number, ok := m.heap.Get(address, m.arg(v, 1))
	if !ok {
		return m.stuck(api.StuckElement)
	}
	return number, true
}

func (m *Machine) store(v api.Value) (int, bool) {
	address := m.arg(v, 0)
	if address == 0 {
		return m.stuck(api.StuckBlock)
	}
	if !m.heap.Set(address, m.arg(v, 1), m.arg(v, 2)) {
		return m.stuck(api.StuckElement)
	}
	return 0, false
}

func (m *Machine) alloc(v api.Value) (int, bool) {
	size := m.arg(v, 0)
	if size < 0 {
		return m.stuck(api.StuckBlock)
	}
	address, ok := m.heap.Make(size)
	if !ok {
		return m.panics(api.PanicHeap, 0)
	}
	m.told.Words(m.heap.Words())
	return address, true
}

func (m *Machine) take(api.Value) (int, bool) {
	if len(m.input) == 0 {
		return m.panics(api.PanicInput, 0)
	}
	number := m.input[0]
	m.input = m.input[1:]
	return number, true
}

// call lets the activation that runs wait for the function called. The Call's number is there when that one has ended.
func (m *Machine) call(v api.Value) (int, bool) {
	var arguments [api.MaxParams]int
	for i := range v.Args {
		arguments[i] = m.arg(v, i)
	}
	m.waiting = append(m.waiting, m.here)
	m.begin(v.Imm, arguments[:len(v.Args)])
	return 0, false
}

func (m *Machine) printInt(v api.Value) (int, bool) { return m.tell(api.EventInt, m.arg(v, 0)) }

func (m *Machine) printBool(v api.Value) (int, bool) { return m.tell(api.EventBool, m.arg(v, 0)) }

func (m *Machine) tell(kind, value int) (int, bool) {
	m.told.Event(kind, value)
	return 0, false
}

func (m *Machine) trapZero(v api.Value) (int, bool) { return m.trap(v, m.arg(v, 0) == 0) }

func (m *Machine) trapNeg(v api.Value) (int, bool) { return m.trap(v, m.arg(v, 0) < 0) }

func (m *Machine) trapBound(v api.Value) (int, bool) {
	i := m.arg(v, 0)
	return m.trap(v, i < 0 || i >= m.arg(v, 1))
}

func (m *Machine) trap(v api.Value, springs bool) (int, bool) {
	if springs {
		return m.panics(v.Imm, 0)
	}
	return 0, false
}
