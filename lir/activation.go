package lir

import "quern/api"

// activation has a place: it is in a block, behind some of its instructions.
type activation struct {
	function  *function
	registers []cell
	block     *block
	behind    int
	hidden    int // how much was hidden when it began
}

// cell is a register of a function, as the newest activation that has set it left it: depth tells which one that is, 0 that there is none. Nobody asks for what an older one has set until all newer ones have ended. So an activation takes memory for the registers that it sets alone.
type cell struct{ number, depth int }

// hidden is a cell as it was.
type hidden struct {
	register int
	was      cell
}

func (m *Machine) depth() int { return len(m.waiting) + 1 }

func (m *Machine) get(register int) int { return m.here.registers[register].number }

func (m *Machine) set(register, number int) {
	c := &m.here.registers[register]
	if c.depth != m.depth() {
		m.hidden = append(m.hidden, hidden{register, *c})
	}
	*c = cell{number, m.depth()}
}

// begin begins an activation of a function. It is the one that runs from now on.
func (m *Machine) begin(number int, arguments []int) {
	f := &m.functions[number]
	m.here = activation{function: f, registers: m.registers[number], block: &f.blocks[0], hidden: len(m.hidden)}
	for i, param := range f.params {
		m.set(param, arguments[i])
	}
	m.Told.Deep(m.depth())
}

// call lets the activation that runs wait for another one. What it hands over is read ahead of setting any: both may have the same registers.
func (m *Machine) call(x api.LIns) {
	var arguments [api.MaxParams]int
	for i, register := range x.Args {
		arguments[i] = m.get(register)
	}
	m.waiting = append(m.waiting, m.here)
	m.begin(x.Imm, arguments[:])
}

// leave goes where the end of a block leads.
func (m *Machine) leave(at end) {
	switch e := at.(type) {
	case jump:
		m.enter(e.to)
	case branch:
		if m.get(e.register) != 0 {
			m.enter(e.yes)
		} else {
			m.enter(e.no)
		}
	case back:
		m.back(e.register)
	case crash:
		m.Told.Panic(api.PanicUser, m.get(e.register))
	}
}

func (m *Machine) enter(block int) { m.here.block, m.here.behind = &m.here.function.blocks[block], 0 }

// back ends the activation that runs; the one that called it goes on behind its call.
func (m *Machine) back(register int) {
	last := len(m.waiting) - 1
	if last < 0 {
		m.Told.Exit()
		return
	}
	number := 0
	if register != none {
		number = m.get(register)
	}
	m.uncover()
	m.here = m.waiting[last]
	m.waiting = m.waiting[:last]
	if call := m.here.block.body[m.here.behind-1]; call.Dst != none {
		m.set(call.Dst, number)
	}
}

// uncover puts back what the activation that runs has hidden.
func (m *Machine) uncover() {
	for _, h := range m.hidden[m.here.hidden:] {
		m.here.registers[h.register] = h.was
	}
	m.hidden = m.hidden[:m.here.hidden]
}
