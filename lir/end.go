package lir

import "quern/api"

// end is how a block ends: a jump, a branch, a back or a crash.
type end interface {
	fits(f api.LFunc) bool
	leads() []int // to blocks
	reads() int   // a register, or none
}

type jump struct{ to int }

// branch leads to yes where its register is not 0.
type branch struct{ register, yes, no int }

// back ends an activation.
type back struct{ register int }

// crash ends the run.
type crash struct{ register int }

// endOf tells how a Term ends its block; nil: it is of no kind, or does not lead to as many blocks as its kind, or reads where its kind does not.
func endOf(t api.Term) end {
	switch {
	case t.Kind == api.TermJump && len(t.To) == 1 && t.Value == none:
		return jump{t.To[0]}
	case t.Kind == api.TermBranch && len(t.To) == 2:
		return branch{t.Value, t.To[0], t.To[1]}
	case t.Kind == api.TermReturn && len(t.To) == 0:
		return back{t.Value}
	case t.Kind == api.TermPanic && len(t.To) == 0:
		return crash{t.Value}
	}
	return nil
}

func (e jump) fits(f api.LFunc) bool { return within(f.Blocks, e.to) }

func (e branch) fits(f api.LFunc) bool {
	return isRegister(f, e.register) && within(f.Blocks, e.yes) && within(f.Blocks, e.no)
}

func (e back) fits(f api.LFunc) bool {
	if f.Result == api.TypeNone {
		return e.register == none
	}
	return isRegister(f, e.register)
}

func (e crash) fits(f api.LFunc) bool { return isRegister(f, e.register) }

func (e jump) leads() []int { return []int{e.to} }

func (e branch) leads() []int { return []int{e.yes, e.no} }

func (e back) leads() []int { return nil }

func (e crash) leads() []int { return nil }

func (e jump) reads() int { return none }

func (e branch) reads() int { return e.register }

func (e back) reads() int { return e.register }

func (e crash) reads() int { return e.register }
