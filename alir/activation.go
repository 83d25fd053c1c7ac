package alir

import "quern/api"

// begin begins an activation. It is the one that runs from now on.
func (m *Machine) begin(f frame) {
	m.frame = f
	m.world.Told.Deep(len(m.waiting) + 1)
}

// call lets the activation that runs wait for another one. Each has places of its own: so what is handed over may be read and set one by one.
func (m *Machine) call(x *api.AIns) {
	called := frameOf(&m.functions[x.Imm])
	for i, param := range called.function.Params {
		called.set(param, m.get(x.Args[i]))
	}
	m.waiting = append(m.waiting, m.frame)
	m.begin(called)
}

// leave goes where the end of a block leads.
func (m *Machine) leave(t api.ATerm) {
	switch t.Kind {
	case api.TermJump:
		m.enter(t.To[0])
	case api.TermBranch:
		if m.get(t.Value) != 0 {
			m.enter(t.To[0])
		} else {
			m.enter(t.To[1])
		}
	case api.TermReturn:
		m.back(m.get(t.Value))
	case api.TermPanic:
		m.world.Told.Panic(api.PanicUser, m.get(t.Value))
	}
}

// back ends the activation that runs; the one that called it goes on behind its call, with what that saves and gives.
func (m *Machine) back(number int) {
	last := len(m.waiting) - 1
	if last < 0 {
		m.world.Told.Exit()
		return
	}
	m.frame = m.waiting[last]
	m.waiting[last] = frame{} // the list is to keep no slots of an activation that has ended
	m.waiting = m.waiting[:last]
	call := m.last()
	m.keep(call.Saves)
	m.set(call.Dst, number)
}
