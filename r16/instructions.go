package r16

import (
	"quern/api"
	"quern/word"
)

// instruction does an instruction of one Op, or of some. Where the machine goes on behind it is set already.
type instruction func(m *Machine, x api.Ins)

// table has at the number of each Op what does it.
type table [api.ROutB + 1]instruction

func instructions() table {
	t := table{
		api.RLdi:   (*Machine).number,
		api.RMov:   (*Machine).move,
		api.RDiv:   (*Machine).divide,
		api.RRem:   (*Machine).divide,
		api.RShl:   (*Machine).shift,
		api.RShr:   (*Machine).shift,
		api.RNeg:   (*Machine).turn,
		api.RInv:   (*Machine).turn,
		api.RNot:   (*Machine).not,
		api.RJmp:   (*Machine).jump,
		api.RBz:    (*Machine).jumpAtZero,
		api.RBnz:   (*Machine).jumpElse,
		api.RLds:   (*Machine).getWord,
		api.RSts:   (*Machine).setWord,
		api.RCall:  (*Machine).call,
		api.RRet:   (*Machine).back,
		api.RAlloc: (*Machine).alloc,
		api.RLen:   (*Machine).length,
		api.RLdx:   (*Machine).getElement,
		api.RStx:   (*Machine).setElement,
		api.RTrapZ: (*Machine).trapZero,
		api.RTrapN: (*Machine).trapNegative,
		api.RTrapU: (*Machine).trapOutside,
		api.RTrap:  (*Machine).trap,
		api.RInp:   (*Machine).take,
		api.ROutI:  (*Machine).tellInt,
		api.ROutB:  (*Machine).tellBool,
	}
	for op := api.RAdd; op <= api.RLe; op++ {
		if t[op] == nil {
			t[op] = (*Machine).calculate
		}
	}
	return t
}

// stuckIf throws a step that can't be done.
func stuckIf(is bool, reason int) {
	if is {
		panic(stuck(reason))
	}
}

func (m *Machine) number(x api.Ins) { m.registers[x.A] = x.N }

func (m *Machine) move(x api.Ins) { m.registers[x.A] = m.registers[x.B] }

// like is by how much the numbers of InsAdd to InsNot stand behind those of RAdd to RNot, which have the same order.
const like = api.InsAdd - api.RAdd

func (m *Machine) calculate(x api.Ins) {
	m.registers[x.A], _ = word.Do(x.Op+like, m.registers[x.B], m.registers[x.C])
}

func (m *Machine) divide(x api.Ins) {
	stuckIf(m.registers[x.C] == 0, api.StuckZero)
	m.calculate(x)
}

func (m *Machine) shift(x api.Ins) {
	stuckIf(m.registers[x.C] < 0, api.StuckShift)
	m.calculate(x)
}

func (m *Machine) turn(x api.Ins) { m.registers[x.A], _ = word.Do(x.Op+like, m.registers[x.B], 0) }

func (m *Machine) not(x api.Ins) {
	stuckIf(!isBool(m.registers[x.B]), api.StuckBool)
	m.turn(x)
}

func isBool(number int) bool { return number == 0 || number == 1 }

func (m *Machine) jump(x api.Ins) { m.next = x.N }

func (m *Machine) jumpAtZero(x api.Ins) {
	if m.registers[x.A] == 0 {
		m.next = x.N
	}
}

func (m *Machine) jumpElse(x api.Ins) {
	if m.registers[x.A] != 0 {
		m.next = x.N
	}
}

func (m *Machine) getWord(x api.Ins) { m.registers[x.A] = m.stack.get(x.N) }

func (m *Machine) setWord(x api.Ins) { m.stack.set(x.N, m.registers[x.A]) }

func (m *Machine) call(x api.Ins) { m.begin(x.N, m.next) }

// begin begins an activation of a function, behind which the run goes on at the instruction back.
func (m *Machine) begin(function, back int) {
	f := m.functions[function]
	if !m.stack.push(f.Frame, back) {
		m.told.Panic(api.PanicStack, 0)
		return
	}
	m.told.Deep(m.stack.frames)
	m.next = f.First
}

func (m *Machine) back(api.Ins) {
	next, is := m.stack.pop()
	if !is {
		m.told.Exit()
	}
	m.next = next
}

func (m *Machine) alloc(x api.Ins) {
	size := m.registers[x.B]
	stuckIf(size < 0, api.StuckBlock)
	if size >= m.room-m.heap.Words() { // its own address is one word more
		m.told.Panic(api.PanicHeap, 0)
		return
	}
	m.registers[x.A], _ = m.heap.Make(size) // it makes all that have room, as MaxHeap is below MaxWords
	m.told.Words(m.heap.Words())
}

func (m *Machine) length(x api.Ins) {
	size, is := m.heap.Len(m.registers[x.B])
	stuckIf(!is, api.StuckBlock)
	m.registers[x.A] = size
}

// element tells the address of a block and the number of one of its words, which are there. At 0 no block begins, though it has a length.
func (m *Machine) element(x api.Ins) (address, i int) {
	address, i = m.registers[x.B], m.registers[x.C]
	size, is := m.heap.Len(address)
	stuckIf(!is || address == 0, api.StuckBlock)
	stuckIf(i < 0 || i >= size, api.StuckElement)
	return address, i
}

func (m *Machine) getElement(x api.Ins) {
	address, i := m.element(x)
	m.registers[x.A], _ = m.heap.Get(address, i)
}

func (m *Machine) setElement(x api.Ins) {
	address, i := m.element(x)
	m.heap.Set(address, i, m.registers[x.A])
}

func (m *Machine) trapZero(x api.Ins) { m.trapIf(m.registers[x.A] == 0, x) }

func (m *Machine) trapNegative(x api.Ins) { m.trapIf(m.registers[x.A] < 0, x) }

func (m *Machine) trapOutside(x api.Ins) {
	i := m.registers[x.A]
	m.trapIf(i < 0 || i >= m.registers[x.B], x)
}

func (m *Machine) trapIf(is bool, x api.Ins) {
	if is {
		m.told.Panic(x.N, 0)
	}
}

func (m *Machine) trap(x api.Ins) {
	value := 0
	if x.N == api.PanicUser {
		value = m.registers[x.A]
	}
	m.told.Panic(x.N, value)
}

func (m *Machine) take(x api.Ins) {
	if len(m.input) == 0 {
		m.told.Panic(api.PanicInput, 0)
		return
	}
	m.registers[x.A] = m.input[0]
	m.input = m.input[1:]
}

func (m *Machine) tellInt(x api.Ins) { m.told.Event(api.EventInt, m.registers[x.A]) }

// tellBool is stuck also where no more events may be told.
func (m *Machine) tellBool(x api.Ins) {
	stuckIf(!isBool(m.registers[x.A]), api.StuckBool)
	m.told.Event(api.EventBool, m.registers[x.A])
}
