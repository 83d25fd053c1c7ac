package build

import "quern/api"

// phi is one that stands in a block, and the variable whose value it is.
type phi struct {
	at              *block
	variable, value int
}

// ofSign stands in the place of the variable of a Phi of && or ||: ahead of all that are declared.
const ofSign = -1

// set gives a variable, known by its Param or Var, a value in the open block.
func (f *function) set(variable, value int) { f.open.has[variable] = value }

// ask tells which value the open block has for a variable.
func (f *function) ask(variable int) int {
	value := f.find(f.open, variable)
	f.askArgs()
	return value
}

// find asks a block. If that makes a Phi, its Args are left to askArgs: so no call goes as deep as blocks stand behind one another.
func (f *function) find(b *block, variable int) int {
	at := b
	value, has := at.has[variable]
	for !has && at.sealed && len(at.from) == 1 {
		at = at.from[0]
		value, has = at.has[variable]
	}
	if !has {
		value = f.newPhi(at, variable)
	}
	b.has[variable] = value // the way back, which may be long, is gone once
	return value
}

// newPhi makes a block's Phi for a variable.
func (f *function) newPhi(b *block, variable int) int {
	p := f.phiOf(b, variable, f.node(variable).Decl)
	b.has[variable] = p.value
	if b.sealed {
		f.unasked = append(f.unasked, p)
	} else {
		b.waiting[variable] = p.value
	}
	return p.value
}

// newPhiOfSign makes the open block's Phi for && or ||.
func (f *function) newPhiOfSign(left, right int) int {
	p := f.phiOf(f.open, ofSign, api.TypeBool)
	f.setArgs(p, []int{left, right})
	return p.value
}

func (f *function) phiOf(b *block, variable, typ int) phi {
	p := phi{b, variable, f.value(api.Value{Op: api.InsPhi, Type: typ})}
	b.phis = append(b.phis, p)
	return p
}

// askArgs asks the Args of Phis, and of those that come up by that, too. They may be many times more than the tree has nodes: so it ends where they are too many.
func (f *function) askArgs() {
	for len(f.unasked) > 0 && !f.full() {
		last := len(f.unasked) - 1
		p := f.unasked[last]
		f.unasked = f.unasked[:last]
		var args []int
		for _, from := range p.at.from {
			args = append(args, f.find(from, p.variable))
		}
		f.setArgs(p, args)
	}
}

func (f *function) setArgs(p phi, args []int) {
	f.count += len(args)
	f.values[p.value].Args = args
}

// unseal leaves a For's head open to what leads to it later.
func (f *function) unseal(head *block) {
	head.sealed = false
	head.waiting = map[int]int{}
}

// seal lets the Phis of a For's head have their Args. In which order they are asked can't be seen: those of one variable are no other's.
func (f *function) seal(head *block) {
	head.sealed = true
	for variable, value := range head.waiting {
		f.unasked = append(f.unasked, phi{head, variable, value})
	}
	f.askArgs()
}
