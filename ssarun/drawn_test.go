package ssarun_test

import (
	"math"
	"slices"
	"testing"

	"quern/api"
	"quern/ssarun"
)

// dice: numbers that look drawn, the same ones each time.
type dice uint64

func (d *dice) below(n int) int {
	*d ^= *d << 13
	*d ^= *d >> 7
	*d ^= *d << 17
	return int(uint64(*d) >> 11 % uint64(n))
}

func (d *dice) oneOf(list ...int) int { return list[d.below(len(list))] }

// number is mostly a small one.
func (d *dice) number() int {
	if d.below(12) == 0 {
		return d.oneOf(math.MinInt, math.MinInt+1, math.MaxInt, -1, 63, 64, 1<<32, api.MaxWords, api.MaxWords-1, api.MaxWords-5)
	}
	return d.below(8) - 1
}

// drawProgram draws SSA that is right.
func drawProgram(d *dice) api.SSA {
	var s api.SSA
	s.Main = d.below(2)
	for i := range s.Main + 1 + d.below(4) {
		f := api.SFunc{Name: string(rune('a' + i)), Result: d.below(4)}
		params := d.oneOf(0, 1, 2, 3, 8)
		if i == s.Main {
			f.Result, params = api.TypeNone, 0
		}
		for p := range params {
			f.Params = append(f.Params, p)
			f.Values = append(f.Values, api.Value{Op: api.InsParam, Type: 1 + d.below(3), Imm: p})
		}
		s.Funcs = append(s.Funcs, f)
	}
	for i := range s.Funcs {
		x := &drawing{dice: d, s: &s, f: &s.Funcs[i], at: i}
		x.blocks()
		x.values()
		x.mix()
	}
	return s
}

// drawing is a function that is drawn.
type drawing struct {
	*dice
	s  *api.SSA
	f  *api.SFunc
	at int // its number
}

// blocks draws blocks to each of which there is a way, and none to block 0; a Term's Value stands at 0 as yet, where it has one.
func (d *drawing) blocks() {
	n := 1 + d.below(7)
	var loose [][2]int // blocks and places in To that lead nowhere as yet
	for b := range n {
		kind := d.oneOf(api.TermJump, api.TermBranch, api.TermBranch, api.TermReturn, api.TermReturn, api.TermReturn, api.TermPanic)
		if b > 0 {
			i := d.below(len(loose))
			d.f.Blocks[loose[i][0]].Term.To[loose[i][1]] = b
			loose = slices.Delete(loose, i, i+1)
		}
		if b+1 < n && len(loose) == 0 {
			kind = d.oneOf(api.TermJump, api.TermBranch, api.TermBranch)
		}
		if n == 1 {
			kind = d.oneOf(api.TermReturn, api.TermReturn, api.TermReturn, api.TermPanic)
		}
		t := api.Term{Kind: kind}
		switch kind {
		case api.TermJump:
			t.Value, t.To = -1, []int{0}
			loose = append(loose, [2]int{b, 0})
		case api.TermBranch:
			t.To = []int{0, 0}
			loose = append(loose, [2]int{b, 0}, [2]int{b, 1})
		case api.TermReturn:
			if d.f.Result == api.TypeNone {
				t.Value = -1
			}
		}
		d.f.Blocks = append(d.f.Blocks, api.Block{Term: t})
	}
	for _, l := range loose {
		d.f.Blocks[l[0]].Term.To[l[1]] = 1 + d.below(n-1)
	}
	setPreds(d.f)
}

// dominates tells whether there is no way to b that leaves a out.
func dominates(f *api.SFunc, a, b int) bool {
	met := make([]bool, len(f.Blocks))
	met[0] = a != 0
	for range f.Blocks {
		for from, block := range f.Blocks {
			for _, n := range block.Term.To {
				met[n] = met[n] || met[from] && n != a
			}
		}
	}
	return !met[b]
}

func (d *drawing) add(v api.Value) int {
	d.f.Values = append(d.f.Values, v)
	return len(d.f.Values) - 1
}

// values draws Phis, then Bodies from the outermost block on, then the Phis' Args and the Terms' Values.
func (d *drawing) values() {
	f := d.f
	for typ := api.TypeInt; typ <= api.TypeInts; typ++ { // so that there is one of each type everywhere
		f.Blocks[0].Body = append(f.Blocks[0].Body, d.add(api.Value{Op: api.InsConst, Type: typ, Imm: []int{0, d.number(), d.below(2), 0}[typ]}))
	}
	for b := 1; b < len(f.Blocks); b++ {
		for range d.below(4) {
			f.Blocks[b].Phis = append(f.Blocks[b].Phis, d.add(api.Value{Op: api.InsPhi, Type: 1 + d.below(3)}))
		}
	}
	over := make([]int, len(f.Blocks))
	order := make([]int, len(f.Blocks))
	for b := range order {
		order[b] = b
		for a := range f.Blocks {
			if dominates(f, a, b) {
				over[b]++
			}
		}
	}
	slices.SortFunc(order, func(a, b int) int { return over[a] - over[b] })
	for _, b := range order {
		for range d.below(7) {
			d.draw(b)
		}
	}
	for b := range f.Blocks {
		block := &f.Blocks[b]
		for _, phi := range block.Phis {
			for _, from := range block.Preds {
				f.Values[phi].Args = append(f.Values[phi].Args, d.there(from, f.Values[phi].Type))
			}
		}
		if block.Term.Value != -1 {
			block.Term.Value = d.there(b, []int{0, 0, api.TypeBool, f.Result, api.TypeInt}[block.Term.Kind])
		}
	}
}

// there is a value of that type that is there at the end of b, as far as it is drawn; one that was drawn of late rather than others.
func (d *drawing) there(b, typ int) int {
	var may []int
	for v, x := range d.f.Values {
		if x.Type == typ && (x.Op == api.InsParam || d.standsOver(v, b)) {
			may = append(may, v)
		}
	}
	return may[max(d.below(len(may)), d.below(len(may)))]
}

func (d *drawing) standsOver(v, b int) bool {
	for a, block := range d.f.Blocks {
		if slices.Contains(block.Phis, v) || slices.Contains(block.Body, v) {
			return dominates(d.f, a, b)
		}
	}
	return false
}

// put puts a value at the end of a block's Body.
func (d *drawing) put(b int, op, typ, imm int, args ...int) int {
	v := d.add(api.Value{Op: op, Type: typ, Imm: imm, Args: args})
	d.f.Blocks[b].Body = append(d.f.Blocks[b].Body, v)
	return v
}

func (d *drawing) draw(b int) {
	const whole, truth, list = api.TypeInt, api.TypeBool, api.TypeInts
	there := func(typ int) int { return d.there(b, typ) }
	switch d.below(21) {
	case 0, 1:
		typ := 1 + d.below(3)
		d.put(b, api.InsConst, typ, []int{0, d.number(), d.below(2), 0}[typ])
	case 2, 3, 4, 5:
		d.put(b, d.oneOf(api.InsAdd, api.InsSub, api.InsMul, api.InsDiv, api.InsRem, api.InsAnd, api.InsOr, api.InsXor, api.InsBic, api.InsShl, api.InsShr), whole, 0, there(whole), there(whole))
	case 6:
		typ := 1 + d.below(3)
		d.put(b, d.oneOf(api.InsEq, api.InsNe), truth, 0, there(typ), there(typ))
	case 7, 8:
		d.put(b, d.oneOf(api.InsLt, api.InsLe), truth, 0, there(whole), there(whole))
	case 9:
		d.put(b, d.oneOf(api.InsNeg, api.InsInv), whole, 0, there(whole))
	case 10:
		d.put(b, api.InsNot, truth, 0, there(truth))
	case 11:
		d.put(b, api.InsLen, whole, 0, there(list))
	case 12, 13:
		d.array(b)
	case 14:
		switch d.below(6) { // mostly such a step is stuck
		case 0:
			d.put(b, api.InsLoad, whole, 0, there(list), there(whole))
		case 1:
			d.put(b, api.InsStore, api.TypeNone, 0, there(list), there(whole), there(whole))
		}
	case 15:
		d.put(b, api.InsInput, whole, 0)
	case 16, 17:
		called := d.below(len(d.s.Funcs))
		if behind := len(d.s.Funcs) - 1 - d.at; behind > 0 && d.below(4) > 0 { // else most runs would never come back
			called = d.at + 1 + d.below(behind)
		}
		f := d.s.Funcs[called]
		var args []int
		for i := range f.Params {
			args = append(args, there(paramType(f, i)))
		}
		d.put(b, api.InsCall, f.Result, called, args...)
	case 18:
		d.put(b, api.InsPrintInt, api.TypeNone, 0, there(whole))
	case 19:
		d.put(b, api.InsPrintBool, api.TypeNone, 0, there(truth))
	case 20:
		d.trap(b, there(whole), there(whole))
	}
}

// paramType: the functions that are drawn already have their values mixed.
func paramType(f api.SFunc, i int) int { return f.Values[f.Params[i]].Type }

// array puts an array, and what is set in it and loaded.
func (d *drawing) array(b int) {
	size := d.put(b, api.InsConst, api.TypeInt, d.oneOf(3, 4, 9, d.number()))
	a := d.put(b, api.InsAlloc, api.TypeInts, 0, size)
	for range d.below(3) {
		i := d.put(b, api.InsConst, api.TypeInt, d.below(3))
		d.put(b, api.InsStore, api.TypeNone, 0, a, i, d.there(b, api.TypeInt))
		d.put(b, api.InsLoad, api.TypeInt, 0, a, d.oneOf(i, i, i, d.there(b, api.TypeInt)))
	}
}

func (d *drawing) trap(b, v, w int) {
	kind := 1 + d.below(5)
	switch d.below(3) {
	case 0:
		d.put(b, api.InsTrapZero, api.TypeNone, kind, v)
	case 1:
		d.put(b, api.InsTrapNeg, api.TypeNone, kind, v)
	case 2:
		d.put(b, api.InsTrapBound, api.TypeNone, kind, v, w)
	}
}

// mix gives the values other numbers.
func (d *drawing) mix() {
	f := d.f
	to := make([]int, len(f.Values))
	for i := range to {
		j := d.below(i + 1)
		to[i] = to[j]
		to[j] = i
	}
	renumber := func(list []int) {
		for i := range list {
			list[i] = to[list[i]]
		}
	}
	values := make([]api.Value, len(f.Values))
	for v, x := range f.Values {
		renumber(x.Args)
		values[to[v]] = x
	}
	f.Values = values
	renumber(f.Params)
	for b := range f.Blocks {
		block := &f.Blocks[b]
		renumber(block.Phis)
		renumber(block.Body)
		if block.Term.Value != -1 {
			block.Term.Value = to[block.Term.Value]
		}
	}
}

func (d *dice) input() []int {
	var list []int
	for range d.below(12) {
		list = append(list, d.number())
	}
	return list
}

// TestDrawnAgainstOracle runs drawn programs at once, step by step, and in pieces.
func TestDrawnAgainstOracle(t *testing.T) {
	d := dice(20261116)
	often := map[string]int{}
	count := func(what string, is bool) {
		if is {
			often[what]++
		}
	}
	const fuel = 600
	for range 20000 {
		s, input := drawProgram(&d), d.input()
		want := oracleRun(s, input, fuel, api.MaxEvents)
		m := start(t, s, input)
		switch d.below(3) {
		case 0:
			m.Run(fuel)
		case 1:
			for range fuel {
				m.Step()
			}
		case 2:
			for left := fuel; left > 0; {
				piece := d.below(min(left, 40) + 1)
				m.Run(piece)
				left -= piece
			}
		}
		if is := m.Outcome(); told(is) != told(want) {
			t.Fatalf("%+v, input %v:\n%s, want\n%s", s, input, told(is), told(want))
		}
		count(ending(api.Outcome{End: want.End, Kind: want.Kind}), true)
		count("steps", want.Steps > 50)
		count("depth", want.Depth > 2 && want.End == api.Exit)
		count("events", len(want.Events) > 10)
		count("words", want.Words > 100)
	}
	for _, kind := range []string{"running", "exit", "panic divide", "panic index", "panic shift", "panic make", "panic input", "panic user 0", "panic heap",
		"stuck block", "stuck element", "stuck zero", "stuck shift", "steps", "depth", "events", "words"} {
		if often[kind] < 20 {
			t.Errorf("only %d runs: %s", often[kind], kind)
		}
	}
	t.Log(often)
}

// TestDrawnAtEveryStep holds the outcome behind each step, and that an outcome is the same with just so much fuel.
func TestDrawnAtEveryStep(t *testing.T) {
	d := dice(77)
	for range 400 {
		s, input := drawProgram(&d), d.input()
		m := start(t, s, input)
		for steps := range 80 {
			want := oracleRun(s, input, steps, api.MaxEvents)
			if is := m.Outcome(); told(is) != told(want) {
				t.Fatalf("%+v, input %v, %d steps:\n%s, want\n%s", s, input, steps, told(is), told(want))
			}
			if made := m.Step(); made != (want.End == api.Running) {
				t.Fatalf("%+v, input %v, %d steps: a step: %t", s, input, steps, made)
			}
		}
	}
}

// TestP1006DrawnInTurns lets many runs go in turns, each as if it were alone.
func TestP1006DrawnInTurns(t *testing.T) {
	d := dice(1006)
	type run struct {
		s     api.SSA
		input []int
		m     *ssarun.Machine
		fuel  int
	}
	for range 60 {
		var runs []*run
		for range 6 {
			r := &run{s: drawProgram(&d), input: d.input()}
			r.m = start(t, r.s, r.input)
			twin := *r
			twin.m = start(t, r.s, r.input)
			runs = append(runs, r, &twin)
		}
		for range 200 {
			r := runs[d.below(len(runs))]
			fuel := d.below(9)
			r.m.Run(fuel)
			r.fuel += fuel
		}
		for _, r := range runs {
			if is, want := r.m.Outcome(), oracleRun(r.s, r.input, r.fuel, api.MaxEvents); told(is) != told(want) {
				t.Fatalf("%+v, input %v, %d steps:\n%s, want\n%s", r.s, r.input, r.fuel, told(is), told(want))
			}
		}
	}
}
