package emit

import (
	"quern/api"
	"quern/moves"
)

// nth is the register n, which may be one that holds no values.
func nth(n int) api.Loc { return api.Loc{Kind: api.LocReg, N: n} }

// move puts what lets a place, or a register that holds no values, be what another one is.
func (w *writer) move(m api.Move) {
	switch {
	case m.To == m.From:
	case m.To.Kind == api.LocSlot:
		w.keep(m.To, w.brought(m.From, spare))
	case m.From.Kind == api.LocSlot:
		w.brought(m.From, m.To.N)
	default:
		w.put(api.Ins{Op: api.RMov, A: m.To.N, B: m.From.N})
	}
}

// atOnce puts moves that are meant to be done at once. No two of them have one To: so there are such.
func (w *writer) atOnce(list []api.Move) {
	ordered, _ := moves.Order(list, nth(temporary))
	for _, m := range ordered {
		w.move(m)
	}
}

// parameters puts what brings arguments from where each call leaves them, the registers from 0 on.
func (w *writer) parameters(params []api.Loc) {
	var list []api.Move
	for i, place := range params {
		list = append(list, api.Move{To: place, From: nth(i)})
	}
	w.atOnce(list)
}

// arguments puts what brings Args to where each function finds them.
func (w *writer) arguments(args []api.Loc) {
	var list []api.Move
	for i, place := range args {
		list = append(list, api.Move{To: nth(i), From: place})
	}
	w.atOnce(list)
}

// call puts a call. What it gives waits in a spare register until the saved ones are back, of which Dst may be one.
func (w *writer) call(x api.AIns) {
	w.saved(api.RSts, x.Saves)
	w.arguments(x.Args)
	w.put(api.Ins{Op: api.RCall, N: x.Imm})
	wanted := x.Dst != api.Loc{}
	if wanted {
		w.move(api.Move{To: nth(spare), From: nth(0)})
	}
	w.saved(api.RLds, x.Saves)
	if wanted {
		w.move(api.Move{To: x.Dst, From: nth(spare)})
	}
}

// saved puts an instruction for each of these registers, on its word.
func (w *writer) saved(op int, registers []int) {
	for _, n := range registers {
		w.put(api.Ins{Op: op, A: n, N: w.frame.saved[n]})
	}
}
