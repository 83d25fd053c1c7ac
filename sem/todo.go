package sem

// task is a part of what is still to be done. It tells whether it was a step: what is decided between two steps is a task too.
type task func() bool

func (m *Machine) first(t task) { m.todo = append(m.todo, t) }

// behind puts first what makes the values of these expressions, and a task behind it.
func (m *Machine) behind(expressions []int, t task) {
	m.first(t)
	for i := len(expressions) - 1; i >= 0; i-- {
		m.first(m.expression(expressions[i]))
	}
}

func (m *Machine) take() task {
	last := len(m.todo) - 1
	t := m.todo[last]
	m.todo = m.todo[:last]
	return t
}

// activation is where the lists of the run ended when it began: all beyond that is its own.
type activation struct{ todo, variables, loops int }

// activate begins an activation; the arguments are the last values.
func (m *Machine) activate(function int) task {
	return func() bool {
		kids := m.node(function).Kids
		params, block := len(kids)-1, kids[len(kids)-1]
		m.activations = append(m.activations, activation{len(m.todo), len(m.variables), len(m.loops)})
		m.told.Deep(len(m.activations))
		arguments := len(m.values) - params
		m.variables = append(m.variables, m.values[arguments:]...)
		m.values = m.values[:arguments]
		m.first(m.end)
		m.first(m.statements(m.node(block).Kids))
		return true
	}
}

// end ends the last activation; if it has a value, that is the last one.
func (m *Machine) end() bool {
	last := len(m.activations) - 1
	a := m.activations[last]
	m.activations = m.activations[:last]
	m.todo = m.todo[:a.todo]
	m.variables = m.variables[:a.variables]
	m.loops = m.loops[:a.loops]
	if last == 0 {
		m.told.Exit()
	}
	return true
}
