package sem

// value is a number, or a bool as 1 or 0; or an array, nil for nil.
type value struct {
	number int
	array  *array
}

func (m *Machine) push(v value) { m.values = append(m.values, v) }

func (m *Machine) pushNumber(n int) { m.push(value{number: n}) }

func (m *Machine) pop() value {
	last := len(m.values) - 1
	v := m.values[last]
	m.values = m.values[:last]
	return v
}

// array has the elements that are not 0 in a map, made with the first one: so it costs what was set in it, however long it is.
type array struct {
	size     int
	elements map[int]int
}

func (a *array) len() int {
	if a == nil {
		return 0
	}
	return a.size
}

func (a *array) has(i int) bool { return 0 <= i && i < a.len() }

func (a *array) get(i int) int { return a.elements[i] }

func (a *array) set(i, n int) {
	switch {
	case n == 0:
		delete(a.elements, i)
	case a.elements == nil:
		a.elements = map[int]int{i: n}
	default:
		a.elements[i] = n
	}
}
