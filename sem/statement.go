package sem

import "quern/api"

// statements begins the first one of a list, and puts off the others.
func (m *Machine) statements(list []int) task {
	return func() bool {
		if len(list) == 0 {
			return false
		}
		if len(list) > 1 {
			m.first(m.statements(list[1:]))
		}
		m.begin(list[0])
		return true
	}
}

func (m *Machine) begin(number int) {
	n := m.node(number)
	switch n.Kind {
	case api.NodeVar, api.NodeSet, api.NodeSetAt:
		m.behind(n.Kids, m.store(number))
	case api.NodeCallStmt:
		m.behind(n.Kids, m.drop(m.node(n.Kids[0]).Type))
	case api.NodePrint:
		m.behind(n.Kids, m.print(m.node(n.Kids[0]).Type))
	case api.NodePanic:
		m.behind(n.Kids, m.panics)
	case api.NodeIf:
		m.behind(n.Kids[:1], m.choose(n.Kids[1:]))
	case api.NodeFor:
		m.loops = append(m.loops, len(m.todo))
		m.first(m.turn(number))
	case api.NodeReturn:
		m.behind(n.Kids, m.end)
	case api.NodeBreak:
		m.endLoop()
	case api.NodeContinue:
		m.nextTurn()
	case api.NodeBlock:
		m.first(m.statements(n.Kids))
	}
}

func (m *Machine) store(number int) task {
	return func() bool {
		switch n := m.node(number); n.Kind {
		case api.NodeVar:
			m.declare(number, len(n.Kids) > 0)
		case api.NodeSet:
			m.variables[m.place(m.program.Means[number])] = m.pop()
		case api.NodeSetAt:
			m.setAt(number)
		}
		return true
	}
}

// declare makes a new variable. Those that stand at its place and beyond it are of blocks that were left.
func (m *Machine) declare(number int, hasValue bool) {
	var v value
	if hasValue {
		v = m.pop()
	}
	m.variables = append(m.variables[:m.place(number)], v)
}

// place tells where the last activation has the variable of a Param or a Var.
func (m *Machine) place(declaration int) int {
	return m.activations[len(m.activations)-1].variables + m.program.Slots[declaration]
}

func (m *Machine) setAt(number int) {
	v := m.pop().number
	i := m.pop().number
	a := m.variables[m.place(m.program.Means[number])].array
	if !a.has(i) {
		m.told.Panic(api.PanicIndex, 0)
		return
	}
	a.set(i, v)
}

// drop lets go of the value of a call that nobody wants.
func (m *Machine) drop(typ int) task {
	return func() bool {
		if typ != api.TypeNone {
			m.pop()
		}
		return false
	}
}

// print tells an event; where no more of them may be told, the run rests.
func (m *Machine) print(typ int) task {
	kind := api.EventInt
	if typ == api.TypeBool {
		kind = api.EventBool
	}
	return func() bool { return m.told.Event(kind, m.pop().number) }
}

func (m *Machine) panics() bool {
	m.told.Panic(api.PanicUser, m.pop().number)
	return true
}

// choose goes by the condition's value; ways are the Block and, if there is one, what stands behind the else.
func (m *Machine) choose(ways []int) task {
	return func() bool {
		switch {
		case m.pop().number != 0:
			m.first(m.statements(m.node(ways[0]).Kids))
		case len(ways) == 1:
		case m.node(ways[1]).Kind == api.NodeBlock:
			m.first(m.statements(m.node(ways[1]).Kids))
		default:
			m.first(m.statements(ways[1:]))
		}
		return false
	}
}

// turn begins a turn of a For.
func (m *Machine) turn(number int) task {
	return func() bool {
		kids := m.node(number).Kids
		m.behind(kids[:len(kids)-1], m.body(number))
		return true
	}
}

// body puts the For's statements first, and right behind them the next turn, where nextTurn finds it.
func (m *Machine) body(number int) task {
	return func() bool {
		kids := m.node(number).Kids
		if len(kids) == 2 && m.pop().number == 0 {
			m.endLoop()
			return false
		}
		m.first(m.turn(number))
		m.first(m.statements(m.node(kids[len(kids)-1]).Kids))
		return false
	}
}

// endLoop leaves the innermost For, with all that was still to be done in it.
func (m *Machine) endLoop() {
	last := len(m.loops) - 1
	m.todo = m.todo[:m.loops[last]]
	m.loops = m.loops[:last]
}

func (m *Machine) nextTurn() { m.todo = m.todo[:m.loops[len(m.loops)-1]+1] }
