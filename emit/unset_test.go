package emit_test

import (
	"slices"

	"quern/api"
	"quern/sample"
)

// unset runs a program, and finds out whether it reads a place that holds a -1 of P1904.
type unset struct {
	sample.World
	a     api.ALIR
	reads int // how often
}

func readsUnset(a api.ALIR, input []int, fuel int) bool {
	u := &unset{sample.World{Input: input, Fuel: fuel, Events: api.MaxEvents}, a, 0}
	u.Watch(func() { u.activation(a.Funcs[a.Main], nil) })
	return u.reads > 0
}

// activation goes by what each place holds that was set.
func (u *unset) activation(f api.AFunc, arguments []int) int {
	u.Begin()
	holds := map[api.Loc]int{}
	for i, p := range f.Params {
		holds[p] = arguments[i]
	}
	read := func(p api.Loc) int {
		n, is := holds[p]
		if !is {
			u.reads++
			return -1
		}
		return n
	}
	for b := 0; ; {
		for _, x := range f.Blocks[b].Body {
			u.instruction(x, holds, read)
		}
		u.Step()
		value := -1
		if f.Blocks[b].Term.Value.Kind != 0 {
			value = read(f.Blocks[b].Term.Value)
		}
		switch t := f.Blocks[b].Term; {
		case t.Kind == api.TermReturn:
			u.End()
			return value
		case t.Kind == api.TermPanic:
			u.Panic(value)
		case t.Kind == api.TermBranch && value == 0:
			b = t.To[1]
		default:
			b = t.To[0]
		}
	}
}

func (u *unset) instruction(x api.AIns, holds map[api.Loc]int, read func(p api.Loc) int) {
	var args []int
	for _, p := range x.Args {
		args = append(args, read(p))
	}
	n := 0
	if x.Op == api.InsCall {
		u.Step()
		n = u.activation(u.a.Funcs[x.Imm], args)
		for r := range 8 {
			if !slices.Contains(x.Saves, r) {
				delete(holds, reg(r))
			}
		}
	} else {
		n = u.Do(x.Op, x.Imm, args)
	}
	if x.Dst.Kind != 0 {
		holds[x.Dst] = n
	}
}
