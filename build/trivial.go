package build

import "quern/api"

// trivials takes trivial Phis away, when all values of a function are made: that they go only then changes nothing, as blocks have a value for a variable all the same.
type trivials struct {
	values []api.Value
	stands []int   // of each value the one that stands for it, itself, or one that is taken away too
	users  [][]int // of each value that is left: the Phis that it is an Arg of, itself or for another one
	look   []int   // Phis that may be trivial
	waits  []bool  // of each value: it stands in look
}

// withoutTrivials tells of each value which one stands for it in the end.
func withoutTrivials(values []api.Value) []int {
	t := &trivials{
		values: values,
		stands: make([]int, len(values)),
		users:  make([][]int, len(values)),
		waits:  make([]bool, len(values)),
	}
	for v, value := range values {
		t.stands[v] = v
		if value.Op != api.InsPhi {
			continue
		}
		t.lookAt(v)
		for _, arg := range value.Args {
			t.users[arg] = append(t.users[arg], v)
		}
	}
	for len(t.look) > 0 {
		t.next()
	}
	for v := range values {
		t.stands[v] = t.left(v)
	}
	return t.stands
}

func (t *trivials) lookAt(phis ...int) {
	for _, p := range phis {
		if !t.waits[p] {
			t.waits[p] = true
			t.look = append(t.look, p)
		}
	}
}

// next looks at a Phi. If it is taken away, those that use it may be trivial now.
func (t *trivials) next() {
	last := len(t.look) - 1
	p := t.look[last]
	t.look = t.look[:last]
	t.waits[p] = false
	if t.stands[p] != p {
		return
	}
	if other, only := t.other(p); only {
		t.stands[p] = other
		t.lookAt(t.users[p]...)
		t.users[other] = append(t.users[other], t.users[p]...)
		t.users[p] = nil
	}
}

// other tells the one value that a Phi has as Args beside itself; false: there are more, or there is none.
func (t *trivials) other(p int) (int, bool) {
	found := p
	for _, arg := range t.values[p].Args {
		v := t.left(arg)
		if v != p && found != p && v != found {
			return 0, false
		}
		if v != p {
			found = v
		}
	}
	return found, found != p
}

// left tells the value that stands for another one, and lets the way to it be short from then on.
func (t *trivials) left(v int) int {
	for t.stands[v] != v {
		t.stands[v] = t.stands[t.stands[v]]
		v = t.stands[v]
	}
	return v
}
