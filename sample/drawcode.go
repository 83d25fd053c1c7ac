package sample

import "quern/api"

// DrawCode draws code that is right, of a few functions. A register holds, mostly, an int, a bool or the address of a block by its number modulo 3: so that a run gets somewhere.
func DrawCode(d *Dice) api.Code {
	var c api.Code
	c.Main = d.Below(2)
	for i := range c.Main + 1 + d.Below(4) {
		f := api.RFunc{Name: string(rune('a' + i)), Frame: 2 + d.Below(7), Params: d.Below(api.MaxParams + 1)}
		if i == c.Main {
			f.Params = 0
		}
		if d.Below(30) == 0 {
			f.Frame = d.OneOf(1<<10, 1<<30, api.MaxStack/2, api.MaxStack)
		}
		c.Funcs = append(c.Funcs, f)
	}
	for i := range c.Funcs {
		x := drawingCode{Dice: d, c: &c, at: i}
		if i == c.Main {
			x.begin()
		}
		for range d.Below(16) {
			x.draw()
		}
		x.put(api.Ins{Op: d.OneOf(api.RRet, api.RRet, api.RRet, api.RRet, api.RRet, api.RRet, api.RTrap, api.RJmp), A: x.reg(anInt), N: 1 + d.Below(api.PanicUser)})
		f := &c.Funcs[i]
		f.First, f.Count = len(c.Ins), len(x.list)
		x.aim()
		c.Ins = append(c.Ins, x.list...)
	}
	return c
}

// drawingCode is a function that is drawn.
type drawingCode struct {
	*Dice
	c    *api.Code
	at   int // its number
	list []api.Ins
}

// reg is a register that mostly holds that kind.
func (d *drawingCode) reg(kind int) int {
	if d.Below(40) == 0 {
		return d.Below(api.Registers)
	}
	return d.Below(api.Registers/3)*3 + kind
}

// put puts an instruction, of which the fields that its Op does not have are let go.
func (d *drawingCode) put(x api.Ins) {
	y := api.Ins{Op: x.Op}
	for _, field := range CodeFields(x.Op) {
		switch field {
		case 'A':
			y.A = x.A
		case 'B':
			y.B = x.B
		case 'C':
			y.C = x.C
		case 'N':
			y.N = x.N
		}
	}
	d.list = append(d.list, y)
}

// begin sets some registers to what they mostly hold.
func (d *drawingCode) begin() {
	for range d.Below(12) {
		switch d.Below(5) {
		case 0, 4:
			d.put(api.Ins{Op: api.RLdi, A: d.reg(anInt), N: d.Number()})
		case 1:
			d.put(api.Ins{Op: api.RLdi, A: d.reg(aBool), N: d.Below(2)})
		case 2:
			d.block()
		case 3:
			d.put(api.Ins{Op: api.RInp, A: d.reg(anInt)})
		}
	}
}

func (d *drawingCode) draw() {
	num, yes, address := func() int { return d.reg(anInt) }, func() int { return d.reg(aBool) }, func() int { return d.reg(anAddress) }
	switch d.Below(25) {
	case 0, 1, 22:
		d.put(api.Ins{Op: api.RLdi, A: num(), N: d.Number()})
	case 2:
		kind := d.Below(3)
		d.put(api.Ins{Op: api.RMov, A: d.reg(kind), B: d.reg(kind)})
	case 3, 4, 5:
		d.put(api.Ins{Op: api.RAdd + d.Below(api.RShr-api.RAdd+1), A: num(), B: num(), C: num()})
	case 6, 7:
		d.put(api.Ins{Op: api.REq + d.Below(api.RLe-api.REq+1), A: yes(), B: num(), C: num()})
	case 8:
		d.put(api.Ins{Op: d.OneOf(api.RNeg, api.RInv), A: num(), B: num()})
	case 9:
		d.put(api.Ins{Op: api.RNot, A: yes(), B: yes()})
	case 10, 11:
		d.put(api.Ins{Op: d.OneOf(api.RJmp, api.RBz, api.RBnz, api.RBz, api.RBnz), A: yes()})
	case 12, 13:
		if size := d.c.Funcs[d.at].Frame; size > 2 {
			d.put(api.Ins{Op: d.OneOf(api.RLds, api.RSts), A: num(), N: max(2, size-1-d.Below(6))})
		}
	case 14, 15, 23, 24:
		d.call()
	case 16:
		d.block()
	case 17:
		d.put(api.Ins{Op: d.OneOf(api.RLen, api.RLen, api.RLen, api.RLen, api.RLen, api.RLen, api.RLdx, api.RStx), A: num(), B: address(), C: num()})
	case 18: // half of them would spring
		if d.Below(3) > 0 {
			return
		}
		d.put(api.Ins{Op: d.OneOf(api.RTrapZ, api.RTrapN, api.RTrapU), A: num(), B: num(), N: 1 + d.Below(api.PanicInput)})
	case 19:
		d.put(api.Ins{Op: d.OneOf(api.RInp, api.ROutI, api.ROutI), A: num()})
	case 20:
		d.put(api.Ins{Op: api.ROutI, A: num()})
	case 21:
		d.put(api.Ins{Op: api.ROutB, A: yes()})
	}
}

// block takes a block, and mostly sets some of its words and gets them.
func (d *drawingCode) block() {
	number, address := d.reg(anInt), d.reg(anAddress)
	d.put(api.Ins{Op: api.RLdi, A: number, N: d.OneOf(3, 4, 5, 6, 7, 8, 9, 9, 9, d.Number())})
	d.put(api.Ins{Op: api.RAlloc, A: address, B: number})
	for range d.Below(3) {
		d.put(api.Ins{Op: api.RLdi, A: number, N: d.Below(4)})
		d.put(api.Ins{Op: api.RStx, A: d.reg(anInt), B: address, C: number})
		d.put(api.Ins{Op: api.RLdx, A: d.reg(anInt), B: address, C: number})
	}
}

// call calls mostly a function behind this one: else most runs would never come back.
func (d *drawingCode) call() {
	called := d.Below(len(d.c.Funcs))
	if d.Below(6) > 0 {
		behind := len(d.c.Funcs) - 1 - d.at
		if behind == 0 {
			return
		}
		called = d.at + 1 + d.Below(behind)
	}
	d.put(api.Ins{Op: api.RCall, N: called})
}

// aim lets each jump lead somewhere, mostly onward.
func (d *drawingCode) aim() {
	first, count := d.c.Funcs[d.at].First, d.c.Funcs[d.at].Count
	for i := range d.list {
		x := &d.list[i]
		if x.Op == api.RJmp || x.Op == api.RBz || x.Op == api.RBnz {
			to := d.Below(count)
			if d.Below(5) > 0 && i+1 < count {
				to = i + 1 + d.Below(count-i-1)
			}
			x.N = first + to
		}
	}
}
