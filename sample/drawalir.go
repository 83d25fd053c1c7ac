package sample

import (
	"slices"

	"quern/api"
)

// placing gives the registers of LIR places.
type placing struct {
	*Dice
	draw   func(regs int) []api.Loc // a place for each register of a function
	saves  func() []int             // of a call
	places []api.Loc                // of the function at hand
}

// Placed is LIR with a place of its own, drawn, for each register, and calls that save all registers: it does what l does, step by step.
func Placed(d *Dice, l api.LIR) api.ALIR {
	p := placing{Dice: d, saves: func() []int { return []int{0, 1, 2, 3, 4, 5, 6, 7} }}
	p.draw = func(regs int) (list []api.Loc) {
		for _, n := range shuffled(d, regs+api.Allocated)[:regs] {
			list = append(list, nth(n))
		}
		return list
	}
	return p.program(l)
}

// DrawALIR draws ALIR that is right, of a few functions with a few blocks: LIR with places that several registers may share, calls that save what is drawn, blocks that can't be reached, and places that are read and were never set.
func DrawALIR(d *Dice) api.ALIR {
	p := placing{Dice: d, saves: func() []int { return drawSaves(d) }}
	p.draw = func(regs int) (list []api.Loc) {
		size := api.Allocated + d.Below(9)
		for r := range regs {
			n := d.Below(size/3)*3 + r%3 // as registers of LIR mostly hold a kind, by their numbers modulo 3, places do
			if d.Below(20) == 0 {
				n = d.Below(size)
			}
			list = append(list, nth(n))
		}
		return list
	}
	a := p.program(DrawLIR(d))
	for i := range a.Funcs {
		distinct(&a.Funcs[i])
		loosen(d, &a.Funcs[i])
	}
	return a
}

// nth is a register, or a slot behind all registers.
func nth(n int) api.Loc {
	if n < api.Allocated {
		return api.Loc{Kind: api.LocReg, N: n}
	}
	return api.Loc{Kind: api.LocSlot, N: n - api.Allocated}
}

// drawSaves draws registers: of one call in four none, of most nearly all.
func drawSaves(d *Dice) (saves []int) {
	most := d.OneOf(0, 2, 20, 20)
	for r := range api.Allocated {
		if d.Below(most+1) > 0 {
			saves = append(saves, r)
		}
	}
	return saves
}

func (p *placing) program(l api.LIR) api.ALIR {
	a := api.ALIR{Main: l.Main}
	for _, f := range l.Funcs {
		p.places = p.draw(f.Regs)
		a.Funcs = append(a.Funcs, p.function(f))
	}
	return a
}

func (p *placing) all(registers []int) (list []api.Loc) {
	for _, r := range registers {
		list = append(list, p.one(r))
	}
	return list
}

func (p *placing) one(register int) api.Loc {
	if register == -1 {
		return api.Loc{}
	}
	return p.places[register]
}

func (p *placing) function(f api.LFunc) api.AFunc {
	made := api.AFunc{Name: f.Name, Params: p.all(f.Params), Result: f.Result}
	for _, b := range f.Blocks {
		var block api.ABlock
		for _, x := range b.Body {
			y := api.AIns{Op: x.Op, Imm: x.Imm, Dst: p.one(x.Dst), Args: p.all(x.Args)}
			if x.Op == api.InsCall {
				y.Saves = p.saves()
			}
			block.Body = append(block.Body, y)
		}
		block.Term = api.ATerm{Kind: b.Term.Kind, Value: p.one(b.Term.Value), To: slices.Clone(b.Term.To)}
		made.Blocks = append(made.Blocks, block)
	}
	made.Slots = namedSlots(made) + p.Below(3)
	return made
}

// distinct lets a Param whose place an earlier one has got be a new slot.
func distinct(f *api.AFunc) {
	for i, p := range f.Params {
		if slices.Contains(f.Params[:i], p) {
			f.Params[i] = api.Loc{Kind: api.LocSlot, N: f.Slots}
			f.Slots++
		}
	}
}

// loosen takes an instruction away, or puts a block behind all that nobody leads to, now and then.
func loosen(d *Dice, f *api.AFunc) {
	b := &f.Blocks[d.Below(len(f.Blocks))]
	if len(b.Body) > 0 && d.Below(3) == 0 {
		i := d.Below(len(b.Body))
		b.Body = slices.Delete(b.Body, i, i+1)
	}
	if d.Below(4) == 0 {
		onward := api.ATerm{Kind: api.TermJump, To: []int{d.Below(len(f.Blocks) + 1)}}
		f.Blocks = append(f.Blocks, api.ABlock{Body: slices.Clone(b.Body), Term: onward})
	}
}
