package ssarun_test

import (
	"quern/api"
	"quern/sample"
)

// The oracle runs a program by the chapter's sentences, an activation a call of its own.
type oracle struct {
	sample.World
	s api.SSA
}

func oracleRun(s api.SSA, input []int, fuel, events int) api.Outcome {
	o := &oracle{sample.World{Input: input, Fuel: fuel, Events: events}, s}
	return o.Watch(func() { o.activation(s.Funcs[s.Main], nil) })
}

func (o *oracle) activation(f api.SFunc, arguments []int) int {
	o.Begin()
	has := map[int]int{}
	for i, p := range f.Params {
		has[p] = arguments[i]
	}
	get := func(v int) int {
		n, is := has[v]
		if !is {
			panic("a value that was not made")
		}
		return n
	}
	for b, way := 0, -1; ; {
		block := f.Blocks[b]
		was := map[int]int{}
		for v, n := range has {
			was[v] = n
		}
		for _, phi := range block.Phis {
			o.Step()
			has[phi] = was[f.Values[phi].Args[way]]
		}
		for _, v := range block.Body {
			x := f.Values[v]
			var args []int
			for _, a := range x.Args {
				args = append(args, get(a))
			}
			if n := o.value(x, args); x.Type != api.TypeNone {
				has[v] = n
			}
		}
		o.Step()
		switch t := block.Term; t.Kind {
		case api.TermReturn:
			o.End()
			if t.Value == -1 {
				return 0
			}
			return get(t.Value)
		case api.TermPanic:
			o.Panic(get(t.Value))
		case api.TermJump:
			b, way = t.To[0], place(f, b, 0)
		case api.TermBranch:
			taken := 0
			if get(t.Value) == 0 {
				taken = 1
			}
			b, way = t.To[taken], place(f, b, taken)
		}
	}
}

// place tells where in its Preds the block that is come to has the way, by counting all ways to it.
func place(f api.SFunc, from, way int) int {
	n := 0
	for b, block := range f.Blocks {
		for w, to := range block.Term.To {
			if b == from && w == way {
				return n
			}
			if to == f.Blocks[from].Term.To[way] {
				n++
			}
		}
	}
	panic("no such way")
}

func (o *oracle) value(x api.Value, n []int) int {
	if x.Op != api.InsCall {
		return o.Do(x.Op, x.Imm, n)
	}
	o.Step()
	return o.activation(o.s.Funcs[x.Imm], n)
}
