package sample

import (
	"slices"

	"quern/api"
)

// DrawSSA draws SSA that is right, of a few functions with a few blocks.
func DrawSSA(d *Dice) api.SSA {
	var s api.SSA
	s.Main = d.Below(2)
	for i := range s.Main + 1 + d.Below(4) {
		f := api.SFunc{Name: string(rune('a' + i)), Result: d.Below(4)}
		params := d.OneOf(0, 1, 2, 3, 8)
		if i == s.Main {
			f.Result, params = api.TypeNone, 0
		}
		for p := range params {
			f.Params = append(f.Params, p)
			f.Values = append(f.Values, api.Value{Op: api.InsParam, Type: 1 + d.Below(3), Imm: p})
		}
		s.Funcs = append(s.Funcs, f)
	}
	for i := range s.Funcs {
		x := &drawing{Dice: d, s: &s, f: &s.Funcs[i], at: i}
		x.blocks()
		x.values()
		mix(d, x.f)
	}
	return s
}

// drawing is a function that is drawn.
type drawing struct {
	*Dice
	s  *api.SSA
	f  *api.SFunc
	at int // its number
}

// blocks draws blocks to each of which there is a way, and none to block 0; a Term's Value stands at 0 as yet, where it has one.
func (d *drawing) blocks() {
	n := 1 + d.Below(7)
	var loose [][2]int // blocks and places in To that lead nowhere as yet
	for b := range n {
		kind := d.OneOf(api.TermJump, api.TermBranch, api.TermBranch, api.TermReturn, api.TermReturn, api.TermReturn, api.TermPanic)
		if b > 0 {
			i := d.Below(len(loose))
			d.f.Blocks[loose[i][0]].Term.To[loose[i][1]] = b
			loose = slices.Delete(loose, i, i+1)
		}
		if b+1 < n && len(loose) == 0 {
			kind = d.OneOf(api.TermJump, api.TermBranch, api.TermBranch)
		}
		if n == 1 {
			kind = d.OneOf(api.TermReturn, api.TermReturn, api.TermReturn, api.TermPanic)
		}
		t := api.Term{Kind: kind}
		switch kind {
		case api.TermJump:
			t.Value, t.To = -1, []int{0}
			loose = append(loose, [2]int{b, 0})
		case api.TermBranch:
			t.To = []int{0, 0}
			loose = append(loose, [2]int{b, 0}, [2]int{b, 1})
		case api.TermReturn:
			if d.f.Result == api.TypeNone {
				t.Value = -1
			}
		}
		d.f.Blocks = append(d.f.Blocks, api.Block{Term: t})
	}
	for _, l := range loose {
		d.f.Blocks[l[0]].Term.To[l[1]] = 1 + d.Below(n-1)
	}
	setPreds(d.f)
}

// dominates tells whether there is no way to b that leaves a out.
func dominates(f *api.SFunc, a, b int) bool {
	met := make([]bool, len(f.Blocks))
	met[0] = a != 0
	for range f.Blocks {
		for from, block := range f.Blocks {
			for _, n := range block.Term.To {
				met[n] = met[n] || met[from] && n != a
			}
		}
	}
	return !met[b]
}

func (d *drawing) add(v api.Value) int {
	d.f.Values = append(d.f.Values, v)
	return len(d.f.Values) - 1
}

// values draws Phis, then Bodies from the outermost block on, then the Phis' Args and the Terms' Values.
func (d *drawing) values() {
	f := d.f
	for typ := api.TypeInt; typ <= api.TypeInts; typ++ { // so that there is one of each type everywhere
		f.Blocks[0].Body = append(f.Blocks[0].Body, d.add(api.Value{Op: api.InsConst, Type: typ, Imm: []int{0, d.Number(), d.Below(2), 0}[typ]}))
	}
	for b := 1; b < len(f.Blocks); b++ {
		for range d.Below(4) {
			f.Blocks[b].Phis = append(f.Blocks[b].Phis, d.add(api.Value{Op: api.InsPhi, Type: 1 + d.Below(3)}))
		}
	}
	over := make([]int, len(f.Blocks))
	order := make([]int, len(f.Blocks))
	for b := range order {
		order[b] = b
		for a := range f.Blocks {
			if dominates(f, a, b) {
				over[b]++
			}
		}
	}
	slices.SortFunc(order, func(a, b int) int { return over[a] - over[b] })
	for _, b := range order {
		for range d.Below(7) {
			d.draw(b)
		}
	}
	for b := range f.Blocks {
		block := &f.Blocks[b]
		for _, phi := range block.Phis {
			for _, from := range block.Preds {
				f.Values[phi].Args = append(f.Values[phi].Args, d.there(from, f.Values[phi].Type))
			}
		}
		if block.Term.Value != -1 {
			block.Term.Value = d.there(b, []int{0, 0, api.TypeBool, f.Result, api.TypeInt}[block.Term.Kind])
		}
	}
}

// there is a value of that type that is there at the end of b, as far as it is drawn; one that was drawn of late rather than others.
func (d *drawing) there(b, typ int) int {
	var may []int
	for v, x := range d.f.Values {
		if x.Type == typ && (x.Op == api.InsParam || d.standsOver(v, b)) {
			may = append(may, v)
		}
	}
	return may[max(d.Below(len(may)), d.Below(len(may)))]
}

func (d *drawing) standsOver(v, b int) bool {
	for a, block := range d.f.Blocks {
		if slices.Contains(block.Phis, v) || slices.Contains(block.Body, v) {
			return dominates(d.f, a, b)
		}
	}
	return false
}

// put puts a value at the end of a block's Body.
func (d *drawing) put(b int, op, typ, imm int, args ...int) int {
	v := d.add(api.Value{Op: op, Type: typ, Imm: imm, Args: args})
	d.f.Blocks[b].Body = append(d.f.Blocks[b].Body, v)
	return v
}

func (d *drawing) draw(b int) {
	const whole, truth, list = api.TypeInt, api.TypeBool, api.TypeInts
	there := func(typ int) int { return d.there(b, typ) }
	switch d.Below(21) {
	case 0, 1:
		typ := 1 + d.Below(3)
		d.put(b, api.InsConst, typ, []int{0, d.Number(), d.Below(2), 0}[typ])
	case 2, 3, 4, 5:
		d.put(b, d.OneOf(api.InsAdd, api.InsSub, api.InsMul, api.InsDiv, api.InsRem, api.InsAnd, api.InsOr, api.InsXor, api.InsBic, api.InsShl, api.InsShr), whole, 0, there(whole), there(whole))
	case 6:
		typ := 1 + d.Below(3)
		d.put(b, d.OneOf(api.InsEq, api.InsNe), truth, 0, there(typ), there(typ))
	case 7, 8:
		d.put(b, d.OneOf(api.InsLt, api.InsLe), truth, 0, there(whole), there(whole))
	case 9:
		d.put(b, d.OneOf(api.InsNeg, api.InsInv), whole, 0, there(whole))
	case 10:
		d.put(b, api.InsNot, truth, 0, there(truth))
	case 11:
		d.put(b, api.InsLen, whole, 0, there(list))
	case 12, 13:
		d.array(b)
	case 14:
		switch d.Below(6) { // mostly such a step is stuck
		case 0:
			d.put(b, api.InsLoad, whole, 0, there(list), there(whole))
		case 1:
			d.put(b, api.InsStore, api.TypeNone, 0, there(list), there(whole), there(whole))
		}
	case 15:
		d.put(b, api.InsInput, whole, 0)
	case 16, 17:
		called := d.Below(len(d.s.Funcs))
		if behind := len(d.s.Funcs) - 1 - d.at; behind > 0 && d.Below(4) > 0 { // else most runs would never come back
			called = d.at + 1 + d.Below(behind)
		}
		f := d.s.Funcs[called]
		var args []int
		for i := range f.Params {
			args = append(args, there(paramType(f, i)))
		}
		d.put(b, api.InsCall, f.Result, called, args...)
	case 18:
		d.put(b, api.InsPrintInt, api.TypeNone, 0, there(whole))
	case 19:
		d.put(b, api.InsPrintBool, api.TypeNone, 0, there(truth))
	case 20:
		d.trap(b, there(whole), there(whole))
	}
}

// paramType: the functions that are drawn already have their values mixed.
func paramType(f api.SFunc, i int) int { return f.Values[f.Params[i]].Type }

// array puts an array, and what is set in it and loaded.
func (d *drawing) array(b int) {
	size := d.put(b, api.InsConst, api.TypeInt, d.OneOf(3, 4, 9, d.Number()))
	a := d.put(b, api.InsAlloc, api.TypeInts, 0, size)
	for range d.Below(3) {
		i := d.put(b, api.InsConst, api.TypeInt, d.Below(3))
		d.put(b, api.InsStore, api.TypeNone, 0, a, i, d.there(b, api.TypeInt))
		d.put(b, api.InsLoad, api.TypeInt, 0, a, d.OneOf(i, i, i, d.there(b, api.TypeInt)))
	}
}

func (d *drawing) trap(b, v, w int) {
	kind := 1 + d.Below(5)
	switch d.Below(3) {
	case 0:
		d.put(b, api.InsTrapZero, api.TypeNone, kind, v)
	case 1:
		d.put(b, api.InsTrapNeg, api.TypeNone, kind, v)
	case 2:
		d.put(b, api.InsTrapBound, api.TypeNone, kind, v, w)
	}
}

// Mixed is the program in new memory, its values by other numbers.
func Mixed(d *Dice, s api.SSA) api.SSA {
	s = Spaced(s)
	for i := range s.Funcs {
		mix(d, &s.Funcs[i])
	}
	return s
}

// mix gives the values of a function other numbers.
func mix(d *Dice, f *api.SFunc) {
	to := shuffled(d, len(f.Values))
	renumber := func(list []int) {
		for i := range list {
			list[i] = to[list[i]]
		}
	}
	values := make([]api.Value, len(f.Values))
	for v, x := range f.Values {
		renumber(x.Args)
		values[to[v]] = x
	}
	f.Values = values
	renumber(f.Params)
	for b := range f.Blocks {
		block := &f.Blocks[b]
		renumber(block.Phis)
		renumber(block.Body)
		if block.Term.Value != -1 {
			block.Term.Value = to[block.Term.Value]
		}
	}
}
