package lir

import (
	"quern/api"
	"quern/word"
)

// do does an instruction.
func (m *Machine) do(x api.LIns) {
	if x.Op == api.InsCall {
		m.call(x)
		return
	}
	var a [3]int
	for i, register := range x.Args {
		a[i] = m.get(register)
	}
	number := m.operate(x, a)
	if x.Dst != none && !m.told.Over() {
		m.set(x.Dst, number)
	}
}

// operate does what an instruction but a call does with the numbers of its Args, and tells Dst's, if it has one.
func (m *Machine) operate(x api.LIns, a [3]int) int {
	switch x.Op {
	case api.InsConst:
		return x.Imm
	case api.InsMove:
		return a[0]
	case api.InsLen:
		return m.length(a[0])
	case api.InsLoad:
		return m.load(a[0], a[1])
	case api.InsStore:
		m.store(a[0], a[1], a[2])
	case api.InsAlloc:
		return m.alloc(a[0])
	case api.InsInput:
		return m.take()
	case api.InsPrintInt:
		m.told.Event(api.EventInt, a[0])
	case api.InsPrintBool:
		m.printBool(a[0])
	case api.InsTrapZero:
		m.trap(x.Imm, a[0] == 0)
	case api.InsTrapNeg:
		m.trap(x.Imm, a[0] < 0)
	case api.InsTrapBound:
		m.trap(x.Imm, a[0] < 0 || a[0] >= a[1])
	default:
		return m.calculate(x.Op, a[0], a[1])
	}
	return 0
}

func (m *Machine) calculate(op, a, b int) int {
	switch {
	case (op == api.InsDiv || op == api.InsRem) && b == 0:
		m.told.Stuck(api.StuckZero)
	case (op == api.InsShl || op == api.InsShr) && b < 0:
		m.told.Stuck(api.StuckShift)
	case op == api.InsNot && !isBool(a):
		m.told.Stuck(api.StuckBool)
	}
	number, _ := word.Do(op, a, b)
	return number
}

func isBool(a int) bool { return a == 0 || a == 1 }

func (m *Machine) length(address int) int {
	n, is := m.Len(address)
	if !is {
		m.told.Stuck(api.StuckBlock)
	}
	return n
}

func (m *Machine) load(address, i int) int {
	number, is := m.Get(address, i)
	if !is {
		m.noElement(address)
	}
	return number
}

func (m *Machine) store(address, i, number int) {
	if !m.Set(address, i, number) {
		m.noElement(address)
	}
}

// noElement tells why there is no such element: no block, or none of so many words. At 0 no block begins, though it has a length.
func (m *Machine) noElement(address int) {
	if _, is := m.Len(address); is && address != 0 {
		m.told.Stuck(api.StuckElement)
	} else {
		m.told.Stuck(api.StuckBlock)
	}
}

func (m *Machine) alloc(size int) int {
	if size < 0 {
		m.told.Stuck(api.StuckBlock)
		return 0
	}
	address, is := m.Make(size)
	if !is {
		m.told.Panic(api.PanicHeap, 0)
	}
	m.told.Words(m.Words())
	return address
}

func (m *Machine) take() int {
	if len(m.input) == 0 {
		m.told.Panic(api.PanicInput, 0)
		return 0
	}
	number := m.input[0]
	m.input = m.input[1:]
	return number
}

// printBool is stuck also where no more events may be told.
func (m *Machine) printBool(a int) {
	if isBool(a) {
		m.told.Event(api.EventBool, a)
	} else {
		m.told.Stuck(api.StuckBool)
	}
}

func (m *Machine) trap(kind int, springs bool) {
	if springs {
		m.told.Panic(kind, 0)
	}
}
