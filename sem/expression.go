package sem

import (
	"quern/api"
	"quern/word"
)

// expression makes the value of a node, its kids' first. What has no kids is done at once: putting it off again would be no step.
func (m *Machine) expression(number int) task {
	return func() bool {
		n := m.node(number)
		switch {
		case len(n.Kids) == 0:
			m.done(number)
			return true
		case n.Op == api.OpBoth, n.Op == api.OpEither:
			m.behind(n.Kids[:1], m.lookRight(number))
		default:
			m.behind(n.Kids, m.doneStep(number))
		}
		return false
	}
}

func (m *Machine) doneStep(number int) task {
	return func() bool {
		m.done(number)
		return true
	}
}

// lookRight leaves the left value as it is, where that decides; else the right one stands for it.
func (m *Machine) lookRight(number int) task {
	return func() bool {
		n := m.node(number)
		left := m.pop()
		if (left.number != 0) == (n.Op == api.OpBoth) {
			m.first(m.expression(n.Kids[1]))
		} else {
			m.push(left)
		}
		return true
	}
}

func (m *Machine) done(number int) {
	n := m.node(number)
	switch n.Kind {
	case api.NodeNum:
		m.pushNumber(n.Value)
	case api.NodeTrue:
		m.pushNumber(1)
	case api.NodeFalse:
		m.pushNumber(0)
	case api.NodeNil:
		m.push(value{})
	case api.NodeName:
		m.push(m.variables[m.place(m.program.Means[number])])
	case api.NodeCall:
		m.first(m.activate(m.program.Means[number]))
	case api.NodeInput:
		m.nextInput()
	case api.NodeLen:
		m.pushNumber(m.pop().array.len())
	case api.NodeMake:
		m.newArray()
	case api.NodeIndex:
		m.index()
	case api.NodeUnary:
		m.unary(n.Op)
	case api.NodeBinary:
		m.binary(n.Op)
	}
}

func (m *Machine) nextInput() {
	if len(m.input) == 0 {
		m.told.Panic(api.PanicInput, 0)
		return
	}
	m.pushNumber(m.input[0])
	m.input = m.input[1:]
}

func (m *Machine) newArray() {
	size := m.pop().number
	if size < 0 {
		m.told.Panic(api.PanicMake, 0)
		return
	}
	m.push(value{array: &array{size: size}})
	left := api.MaxWords - m.words // size is held against it as it stands: a sum with size could leave int64
	if size >= left {
		m.words = api.MaxWords
	} else {
		m.words += size + 1
	}
	m.told.Words(m.words)
}

func (m *Machine) index() {
	i := m.pop().number
	a := m.pop().array
	if !a.has(i) {
		m.told.Panic(api.PanicIndex, 0)
		return
	}
	m.pushNumber(a.get(i))
}

func (m *Machine) unary(op int) {
	v := m.pop().number
	switch op {
	case api.OpNeg:
		v = word.Neg(v)
	case api.OpInv:
		v = word.Inv(v)
	case api.OpNot:
		v = 1 - v
	}
	m.pushNumber(v)
}

func (m *Machine) binary(op int) {
	r := m.pop()
	l := m.pop()
	switch {
	case (op == api.OpDiv || op == api.OpRem) && r.number == 0:
		m.told.Panic(api.PanicDivide, 0)
	case (op == api.OpShl || op == api.OpShr) && r.number < 0:
		m.told.Panic(api.PanicShift, 0)
	default:
		m.pushNumber(combine(op, l, r))
	}
}

// combine tells what an operator other than && and || makes of two values.
func combine(op int, l, r value) int {
	if l.array != r.array { // one of them is nil
		return truth(op == api.OpNe)
	}
	if op == api.OpGt || op == api.OpGe { // word has the two others alone
		op -= api.OpGt - api.OpLt
		l, r = r, l
	}
	// OpAdd to OpLe go as InsAdd to InsLe do.
	n, _ := word.Do(op-api.OpAdd+api.InsAdd, l.number, r.number)
	return n
}

func truth(is bool) int {
	if is {
		return 1
	}
	return 0
}
