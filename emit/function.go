package emit

import "quern/api"

// function puts a function's instructions and tells what code says of it.
func (w *writer) function(f api.AFunc) api.RFunc {
	first := len(w.ins)
	w.frame, w.places = frameOf(f), map[int]int{}
	w.parameters(f.Params)
	for i, b := range f.Blocks {
		w.places[i] = len(w.ins)
		w.block(b, i+1)
	}
	w.aim(first)
	return api.RFunc{Name: f.Name, Frame: w.frame.size, First: first, Count: len(w.ins) - first, Params: len(f.Params)}
}

// block puts a block behind which the block next follows, if there is one.
func (w *writer) block(b api.ABlock, next int) {
	for _, x := range b.Body {
		w.instruction(x)
	}
	w.term(b.Term, next)
}

// aim lets the jumps from an instruction on go to places. Until then each has the number of its block: that one may stand further on.
func (w *writer) aim(first int) {
	behind := w.ins[first:]
	for i, x := range behind {
		switch x.Op {
		case api.RJmp, api.RBz, api.RBnz:
			behind[i].N = w.places[x.N]
		}
	}
}

func (w *writer) term(t api.ATerm, next int) {
	switch t.Kind {
	case api.TermJump:
		w.jump(t.To[0], next)
	case api.TermBranch:
		w.branch(w.brought(t.Value, spare), t.To[0], t.To[1], next)
	case api.TermReturn:
		w.back(t.Value)
	case api.TermPanic:
		w.put(api.Ins{Op: api.RTrap, A: w.brought(t.Value, spare), N: api.PanicUser})
	}
}

// jump goes on at a block, which takes no instruction where that one follows.
func (w *writer) jump(to, next int) {
	if to != next {
		w.put(api.Ins{Op: api.RJmp, N: to})
	}
}

// branch goes on at one of two blocks: where one of them follows, there is a way to the other one alone.
func (w *writer) branch(asked, yes, no, next int) {
	switch next {
	case yes:
		w.put(api.Ins{Op: api.RBz, A: asked, N: no})
	case no:
		w.put(api.Ins{Op: api.RBnz, A: asked, N: yes})
	default:
		w.put(api.Ins{Op: api.RBnz, A: asked, N: yes}, api.Ins{Op: api.RJmp, N: no})
	}
}

// back ends the activation, with a value if there is one.
func (w *writer) back(value api.Loc) {
	if value != (api.Loc{}) {
		w.move(api.Move{To: nth(0), From: value})
	}
	w.put(api.Ins{Op: api.RRet})
}
