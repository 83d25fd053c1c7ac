package sample

import (
	"slices"

	"quern/api"
)

// DrawLIR draws LIR that is right, of a few functions with a few blocks. A register holds, mostly, an int, a bool or the address of a block by its number modulo 3: so that a run gets somewhere.
func DrawLIR(d *Dice) api.LIR {
	var l api.LIR
	l.Main = d.Below(2)
	for i := range l.Main + 1 + d.Below(4) {
		f := api.LFunc{Name: string(rune('a' + i)), Result: d.Below(4), Regs: 9 + d.Below(9)}
		params := d.OneOf(0, 1, 2, 3, 8)
		if i == l.Main {
			f.Result, params = api.TypeNone, 0
		}
		for len(f.Params) < params {
			if p := d.Below(f.Regs); !slices.Contains(f.Params, p) {
				f.Params = append(f.Params, p)
			}
		}
		l.Funcs = append(l.Funcs, f)
	}
	for i := range l.Funcs {
		x := &drawingLIR{d, &l, &l.Funcs[i], i}
		x.blocks()
		for b := range x.f.Blocks {
			for range d.Below(8) {
				x.draw(b)
			}
		}
		x.begin()
	}
	return l
}

// drawingLIR is a function that is drawn.
type drawingLIR struct {
	*Dice
	l  *api.LIR
	f  *api.LFunc
	at int // its number
}

// The kinds of what a register mostly holds, by its number modulo 3.
const (
	anInt = iota
	aBool
	anAddress
)

// reg is a register that mostly holds that kind.
func (d *drawingLIR) reg(kind int) int {
	if d.Below(25) == 0 {
		return d.Below(d.f.Regs)
	}
	return d.Below(d.f.Regs/3)*3 + kind
}

// blocks draws blocks to each of which there is a way.
func (d *drawingLIR) blocks() {
	n := 1 + d.Below(7)
	var loose [][2]int // blocks and places in To that lead nowhere as yet
	for b := range n {
		if b > 0 {
			i := d.Below(len(loose))
			d.f.Blocks[loose[i][0]].Term.To[loose[i][1]] = b
			loose = slices.Delete(loose, i, i+1)
		}
		t := d.term(d.kind(b+1 == n, len(loose) == 0))
		for to := range t.To {
			loose = append(loose, [2]int{b, to})
		}
		d.f.Blocks = append(d.f.Blocks, api.LBlock{Term: t})
	}
	for _, x := range loose { // mostly onward, else most runs would never end
		d.f.Blocks[x[0]].Term.To[x[1]] = max(d.Below(n), d.Below(n), min(x[0]+1, n-1)*min(d.Below(5), 1))
	}
}

// kind draws how a block ends: the last one mostly nowhere, another one, if nothing else leads on, somewhere.
func (d *drawingLIR) kind(last, only bool) int {
	switch {
	case last:
		return d.OneOf(api.TermReturn, api.TermReturn, api.TermReturn, api.TermReturn, api.TermReturn, api.TermPanic, api.TermBranch, api.TermJump)
	case only:
		return d.OneOf(api.TermJump, api.TermBranch, api.TermBranch)
	}
	return d.OneOf(api.TermBranch, api.TermBranch, api.TermReturn, api.TermReturn, api.TermReturn, api.TermJump, api.TermPanic)
}

func (d *drawingLIR) term(kind int) api.Term {
	switch {
	case kind == api.TermJump:
		return api.Term{Kind: kind, Value: -1, To: []int{0}}
	case kind == api.TermBranch:
		return api.Term{Kind: kind, Value: d.reg(aBool), To: []int{0, 0}}
	case kind == api.TermPanic:
		return api.Term{Kind: kind, Value: d.reg(anInt)}
	case d.f.Result == api.TypeNone:
		return api.Term{Kind: kind, Value: -1}
	}
	return api.Term{Kind: kind, Value: d.reg(d.f.Result - api.TypeInt)}
}

// put puts an instruction at the end of a block.
func (d *drawingLIR) put(b, op, dst, imm int, args ...int) {
	d.f.Blocks[b].Body = append(d.f.Blocks[b].Body, api.LIns{Op: op, Dst: dst, Imm: imm, Args: args})
}

func (d *drawingLIR) draw(b int) {
	num, yes, address := func() int { return d.reg(anInt) }, func() int { return d.reg(aBool) }, func() int { return d.reg(anAddress) }
	switch d.Below(24) {
	case 0:
		d.constant(b, d.Below(d.f.Regs))
	case 1, 2, 3, 4, 5:
		d.put(b, d.OneOf(api.InsAdd, api.InsSub, api.InsMul, api.InsDiv, api.InsRem, api.InsAnd, api.InsOr, api.InsXor, api.InsBic, api.InsShl, api.InsShr), num(), 0, num(), num())
	case 6, 7:
		d.put(b, d.OneOf(api.InsEq, api.InsNe, api.InsLt, api.InsLe), yes(), 0, num(), num())
	case 8:
		d.put(b, d.OneOf(api.InsNeg, api.InsInv), num(), 0, num())
	case 9:
		d.put(b, api.InsNot, yes(), 0, yes())
	case 10:
		d.put(b, api.InsLen, num(), 0, address())
	case 11, 12:
		d.array(b, num(), address())
	case 13:
		switch d.Below(8) { // mostly such a step is stuck
		case 0:
			d.put(b, api.InsLoad, num(), 0, address(), num())
		case 1:
			d.put(b, api.InsStore, -1, 0, address(), num(), num())
		}
	case 14:
		kind := d.Below(3)
		d.put(b, api.InsMove, d.reg(kind), 0, d.reg(kind))
	case 15:
		d.put(b, api.InsInput, num(), 0)
	case 16, 17:
		d.call(b)
	case 18, 19:
		d.put(b, api.InsPrintInt, -1, 0, num())
	case 20:
		d.put(b, api.InsPrintBool, -1, 0, yes())
	case 21, 22:
		d.call(b)
	case 23:
		kind, n := 1+d.Below(5), num()
		switch d.Below(3) {
		case 0:
			d.put(b, api.InsTrapZero, -1, kind, n)
		case 1:
			d.put(b, api.InsTrapNeg, -1, kind, n)
		case 2:
			d.put(b, api.InsTrapBound, -1, kind, n, num())
		}
	}
}

// constant puts a number of the kind that a register holds.
func (d *drawingLIR) constant(b, register int) {
	d.put(b, api.InsConst, register, []int{d.Number(), d.Below(2), d.Below(30) / 29}[register%3])
}

// array puts an array, and what is set in it and loaded.
func (d *drawingLIR) array(b, number, address int) {
	d.put(b, api.InsConst, number, d.OneOf(3, 4, 9, 9, d.Number()))
	d.put(b, api.InsAlloc, address, 0, number)
	for range d.Below(3) {
		d.put(b, api.InsConst, number, d.Below(4))
		d.put(b, api.InsStore, -1, 0, address, number, d.reg(anInt))
		d.put(b, api.InsLoad, number, 0, address, number)
	}
}

func (d *drawingLIR) call(b int) {
	called := d.Below(len(d.l.Funcs))
	if d.Below(6) > 0 { // else most runs would never come back
		behind := len(d.l.Funcs) - 1 - d.at
		if behind == 0 {
			return
		}
		called = d.at + 1 + d.Below(behind)
	}
	f := d.l.Funcs[called]
	var args []int
	for _, p := range f.Params {
		args = append(args, d.reg(p%3))
	}
	dst := -1
	if f.Result != api.TypeNone && d.Below(4) > 0 {
		dst = d.reg(f.Result - api.TypeInt)
	}
	d.put(b, api.InsCall, dst, called, args...)
}

// begin sets at the beginning what may be read on some way and was not set there.
func (d *drawingLIR) begin() {
	body := d.f.Blocks[0].Body
	d.f.Blocks[0].Body = nil
	for _, r := range d.missing(body) {
		d.constant(0, r)
	}
	d.f.Blocks[0].Body = append(d.f.Blocks[0].Body, body...)
}

// missing are the registers that are read on some way ahead of being set: what is wanted at the blocks' beginnings is asked again and again until nothing changes. Block 0 has this body.
func (d *drawingLIR) missing(first []api.LIns) []int {
	wanted := make([][]bool, len(d.f.Blocks))
	for b := range wanted {
		wanted[b] = make([]bool, d.f.Regs)
	}
	for range len(d.f.Blocks) + 1 {
		for b, block := range d.f.Blocks {
			if b == 0 {
				block.Body = first
			}
			w := make([]bool, d.f.Regs)
			for _, to := range block.Term.To {
				for r, is := range wanted[to] {
					w[r] = w[r] || is
				}
			}
			if block.Term.Value >= 0 {
				w[block.Term.Value] = true
			}
			for _, x := range slices.Backward(block.Body) {
				if x.Dst >= 0 {
					w[x.Dst] = false
				}
				for _, a := range x.Args {
					w[a] = true
				}
			}
			wanted[b] = w
		}
	}
	var registers []int
	for r, is := range wanted[0] {
		if is && !slices.Contains(d.f.Params, r) {
			registers = append(registers, r)
		}
	}
	return registers
}
