package ssa_test

import (
	"slices"
	"testing"

	"quern/api"
	"quern/ssa"
)

// dice: numbers that look drawn, the same ones each time.
type dice uint64

func (d *dice) below(n int) int {
	*d ^= *d << 13
	*d ^= *d >> 7
	*d ^= *d << 17
	return int(uint64(*d) >> 11 % uint64(n))
}

func (d *dice) oneOf(list ...int) int { return list[d.below(len(list))] }

// drawProgram draws SSA that is right.
func drawProgram(d *dice) *api.SSA {
	s := &api.SSA{}
	names := []string{"main", "f", "g_1", "Q"}
	s.Main = d.below(1 + d.below(3))
	count := s.Main + 1 + d.below(2)
	for i := range count {
		f := api.SFunc{Name: names[i], Result: d.below(4)}
		params := d.below(4)
		if i == s.Main {
			f.Result, params = none, 0
		}
		for p := range params {
			f.Params = append(f.Params, p)
			f.Values = append(f.Values, val(api.InsParam, 1+d.below(3), p))
		}
		s.Funcs = append(s.Funcs, f)
	}
	for i := range s.Funcs {
		f := &s.Funcs[i]
		drawBlocks(d, f)
		drawValues(d, s, f)
		mixValues(d, f)
	}
	return s
}

// drawBlocks draws blocks to each of which there is a way, and none to block 0; their Values stand at 0 as yet, where they have one.
func drawBlocks(d *dice, f *api.SFunc) {
	n := 1 + d.below(6)
	var loose [][2]int // blocks and places in To that lead nowhere as yet
	for b := range n {
		kind := d.oneOf(api.TermJump, api.TermBranch, api.TermBranch, api.TermReturn, api.TermPanic)
		if b > 0 {
			i := d.below(len(loose))
			f.Blocks[loose[i][0]].Term.To[loose[i][1]] = b
			loose = slices.Delete(loose, i, i+1)
		}
		if b+1 < n && len(loose) == 0 {
			kind = d.oneOf(api.TermJump, api.TermBranch)
		}
		if n == 1 {
			kind = d.oneOf(api.TermReturn, api.TermPanic)
		}
		t := api.Term{Kind: kind}
		switch kind {
		case api.TermJump:
			t.Value, t.To = -1, []int{0}
			loose = append(loose, [2]int{b, 0})
		case api.TermBranch:
			t.To = []int{0, 0}
			loose = append(loose, [2]int{b, 0}, [2]int{b, 1})
		case api.TermReturn:
			if f.Result == none {
				t.Value = -1
			}
		}
		f.Blocks = append(f.Blocks, api.Block{Term: t})
	}
	for _, l := range loose {
		f.Blocks[l[0]].Term.To[l[1]] = 1 + d.below(n-1)
	}
	setPreds(f)
}

// setPreds sets Preds as the Terms want them.
func setPreds(f *api.SFunc) {
	for b := range f.Blocks {
		f.Blocks[b].Preds = nil
	}
	for b, block := range f.Blocks {
		for _, to := range block.Term.To {
			if inside(to, len(f.Blocks)) {
				f.Blocks[to].Preds = append(f.Blocks[to].Preds, b)
			}
		}
	}
}

// drawValues draws Phis, then Bodies from the outermost block on, then the Phis' Args and the Terms' Values.
func drawValues(d *dice, s *api.SSA, f *api.SFunc) {
	add := func(v api.Value) int {
		f.Values = append(f.Values, v)
		return len(f.Values) - 1
	}
	for typ := num; typ <= list; typ++ { // so that there is one of each type everywhere
		f.Blocks[0].Body = append(f.Blocks[0].Body, add(val(api.InsConst, typ, 0)))
	}
	for b := 1; b < len(f.Blocks); b++ {
		for range d.below(3) {
			f.Blocks[b].Phis = append(f.Blocks[b].Phis, add(val(api.InsPhi, 1+d.below(3), 0)))
		}
	}
	there := func(b, typ int) int { // one of that type that is there at the end of b, as far as it is drawn
		var may []int
		for v := range f.Values {
			if f.Values[v].Type == typ && (f.Values[v].Op == api.InsParam || standsOver(*f, v, b)) {
				may = append(may, v)
			}
		}
		return may[d.below(len(may))]
	}
	depth := func(b int) int {
		n := 0
		for a := range f.Blocks {
			if dominates(*f, a, b) {
				n++
			}
		}
		return n
	}
	order := make([]int, len(f.Blocks))
	for b := range order {
		order[b] = b
	}
	slices.SortFunc(order, func(a, b int) int { return depth(a) - depth(b) })
	for _, b := range order {
		for range d.below(5) {
			v := drawValue(d, s, func(typ int) int { return there(b, typ) })
			f.Blocks[b].Body = append(f.Blocks[b].Body, add(v))
		}
	}
	for b := range f.Blocks {
		block := &f.Blocks[b]
		for _, phi := range block.Phis {
			for _, from := range block.Preds {
				f.Values[phi].Args = append(f.Values[phi].Args, there(from, f.Values[phi].Type))
			}
		}
		if block.Term.Value != -1 {
			block.Term.Value = there(b, map[int]int{api.TermBranch: truth, api.TermPanic: num, api.TermReturn: f.Result}[block.Term.Kind])
		}
	}
}

func standsOver(f api.SFunc, v, b int) bool {
	for a, block := range f.Blocks {
		if slices.Contains(block.Phis, v) || slices.Contains(block.Body, v) {
			return dominates(f, a, b)
		}
	}
	return false
}

func drawValue(d *dice, s *api.SSA, there func(typ int) int) api.Value {
	for {
		op := 1 + d.below(33)
		row, is := oracleRows[op]
		if !is || op == api.InsPhi || op == api.InsParam {
			continue
		}
		switch op {
		case api.InsConst:
			typ := 1 + d.below(3)
			return val(op, typ, []int{0, d.below(100) - 50, d.below(2), 0}[typ])
		case api.InsEq, api.InsNe:
			typ := 1 + d.below(3)
			return val(op, truth, 0, there(typ), there(typ))
		case api.InsCall:
			called := d.below(len(s.Funcs))
			v := val(op, s.Funcs[called].Result, called)
			for i := range s.Funcs[called].Params {
				v.Args = append(v.Args, there(paramType(s.Funcs[called], i)))
			}
			return v
		}
		v := val(op, slices.Index([]byte(oracleTypes), row.gives[0]), 0)
		for _, letter := range []byte(row.args) {
			v.Args = append(v.Args, there(slices.Index([]byte(oracleTypes), letter)))
		}
		if isTrap(op) {
			v.Imm = 1 + d.below(5)
		}
		return v
	}
}

func paramType(f api.SFunc, i int) int { return f.Values[f.Params[i]].Type }

// mixValues gives the values other numbers.
func mixValues(d *dice, f *api.SFunc) {
	to := make([]int, len(f.Values))
	for i := range to {
		j := d.below(i + 1)
		to[i] = to[j]
		to[j] = i
	}
	renumber := func(list []int) {
		for i := range list {
			list[i] = to[list[i]]
		}
	}
	values := make([]api.Value, len(f.Values))
	for v, x := range f.Values {
		renumber(x.Args)
		values[to[v]] = x
	}
	f.Values = values
	renumber(f.Params)
	for b := range f.Blocks {
		block := &f.Blocks[b]
		renumber(block.Phis)
		renumber(block.Body)
		if block.Term.Value != -1 {
			block.Term.Value = to[block.Term.Value]
		}
	}
}

// turnList does one thing to a list of numbers.
func turnList(d *dice, list *[]int, below int) {
	l := slices.Clone(*list)
	n := d.below(below+2) - 1
	switch {
	case len(l) == 0 || d.below(5) == 0:
		l = slices.Insert(l, d.below(len(l)+1), n)
	case d.below(3) == 0:
		at := d.below(len(l))
		l = slices.Delete(l, at, at+1)
	case d.below(2) == 0:
		i, j := d.below(len(l)), d.below(len(l))
		l[i], l[j] = l[j], l[i]
	default:
		l[d.below(len(l))] = n
	}
	*list = l
}

// turnOne turns one thing in a program.
func turnOne(d *dice, s *api.SSA) {
	f := &s.Funcs[d.below(len(s.Funcs))]
	if len(f.Blocks) == 0 || len(f.Values) == 0 {
		return
	}
	v, b := &f.Values[d.below(len(f.Values))], &f.Blocks[d.below(len(f.Blocks))]
	other := &f.Blocks[d.below(len(f.Blocks))]
	switch d.below(22) {
	case 0:
		f.Name = []string{"f", "main", "", "int", "a-b"}[d.below(5)]
	case 1:
		s.Main = d.below(len(s.Funcs)+2) - 1
	case 2:
		f.Result = d.below(6) - 1
	case 3:
		turnList(d, &f.Params, len(f.Values))
	case 4:
		v.Op = d.below(36) - 1
	case 5, 6:
		v.Type = d.below(4)
	case 7:
		v.Imm = d.below(8) - 1
	case 8, 9, 10:
		if len(v.Args) > 0 {
			v.Args = slices.Clone(v.Args)
			v.Args[d.below(len(v.Args))] = d.below(len(f.Values))
		}
	case 11:
		turnList(d, &v.Args, len(f.Values))
	case 12:
		turnList(d, &b.Phis, len(f.Values))
	case 13:
		turnList(d, &b.Body, len(f.Values))
	case 14, 15: // within a Body, or to another one
		if len(b.Body) > 0 {
			at := d.below(len(b.Body))
			n := b.Body[at]
			b.Body = slices.Delete(slices.Clone(b.Body), at, at+1)
			other.Body = slices.Insert(slices.Clone(other.Body), d.below(len(other.Body)+1), n)
		}
	case 16:
		turnList(d, &b.Preds, len(f.Blocks))
	case 17:
		b.Term.Kind = d.below(6)
	case 18:
		b.Term.Value = d.below(len(f.Values)+3) - 2
	case 19:
		turnList(d, &b.Term.To, len(f.Blocks))
	case 20, 21: // a way to another block, and Preds that tell it
		if len(b.Term.To) > 0 {
			b.Term.To = slices.Clone(b.Term.To)
			b.Term.To[d.below(len(b.Term.To))] = d.below(len(f.Blocks))
			setPreds(f)
		}
	}
}

func TestDrawnAgainstOracle(t *testing.T) {
	d := dice(20261116)
	often := map[api.Errno]int{}
	for range 60000 {
		s := drawProgram(&d)
		turns := d.below(4)
		for range turns {
			turnOne(&d, s)
		}
		is, e := ssa.Check(*s), oracle(*s)
		if is != e || turns == 0 && is != api.OK {
			t.Fatalf("%+v: %v, want %v (%d turns)", *s, is, e, turns)
		}
		often[e]++
	}
	for _, e := range []api.Errno{api.OK, api.ErrSSAForm, api.ErrSSAPreds, api.ErrSSAReach, api.ErrSSAPhi, api.ErrSSATwice, api.ErrSSAType, api.ErrSSAUse} {
		if often[e] < 100 {
			t.Errorf("only %d programs with %v", often[e], e)
		}
	}
	t.Log(often)
}
