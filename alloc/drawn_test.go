package alloc_test

import (
	"math"
	"slices"
	"strconv"
	"testing"

	"quern/alloc"
	"quern/api"
	"quern/dce"
	"quern/lir"
	"quern/sample"
	"quern/unssa"
)

// counts of what was drawn: a draw of one sort would hold little.
type counts map[string]int

func (c counts) add(what string, is bool) {
	if is {
		c[what]++
	}
}

func (c counts) hold(t *testing.T, least int, all ...string) {
	t.Helper()
	for _, what := range all {
		if c[what] < least {
			t.Errorf("only %d: %s", c[what], what)
		}
	}
	t.Log(c)
}

// met counts what a function has, and what became of it.
func (c counts) met(f api.LFunc, g api.AFunc) {
	line := lineOf(f)
	c.add("another order", !slices.IsSorted(line))
	c.add("no slots", g.Slots == 0)
	c.add("slots", g.Slots > 0)
	c.add("many slots", g.Slots > 8)
	for i, p := range g.Params {
		c.add("a Param in a slot", p.Kind == api.LocSlot)
		c.add("a Param elsewhere", p != api.Loc{Kind: api.LocReg, N: i})
	}
	places, registers := map[api.Loc]int{}, 0
	for _, p := range given(f, g) {
		places[p]++
		registers++
	}
	c.add("registers with one place", len(places) < registers)
	for i, b := range line {
		for _, to := range g.Blocks[i].Term.To {
			c.add("a way back", to <= i)
		}
		for k, x := range g.Blocks[i].Body {
			if x.Op != api.InsCall {
				continue
			}
			dst := f.Blocks[b].Body[k].Dst
			lives := dst != -1 && isLive(f, dst, point{b, k + 1})
			c.add("calls that save nothing", len(x.Saves) == 0)
			c.add("calls that save some", len(x.Saves) > 0 && len(x.Saves) < api.Allocated)
			c.add("calls that save all", len(x.Saves) == api.Allocated)
			c.add("calls with a Dst that is live", lives)
			c.add("calls with a Dst that is not", dst != -1 && !lives)
			c.add("calls with a Dst in a slot", x.Dst.Kind == api.LocSlot)
			c.add("calls without a Dst", dst == -1)
			c.add("calls with Args", len(x.Args) > 0)
		}
	}
}

// holdDrawn holds what is answered of a program against the oracle, and its runs.
func holdDrawn(t *testing.T, d *sample.Dice, l api.LIR, c counts, fuel int) {
	t.Helper()
	a := hold(t, l)
	for i, f := range l.Funcs {
		c.met(f, a.Funcs[i])
	}
	o := holdRuns(t, l, a, d.Input(), fuel)
	c.add([]string{"running", "exit", "panic", "stuck"}[o.End], true)
	c.add("deep", o.Depth > 2)
	c.add("words", o.Words > 0)
	c.add("events", len(o.Events) > 3)
}

func TestDrawnAgainstOracle(t *testing.T) {
	d, c := sample.Dice(20261118), counts{}
	for range 3000 {
		holdDrawn(t, &d, sample.DrawLIR(&d), c, 250)
	}
	c.hold(t, 20, "another order", "no slots", "slots", "a Param in a slot", "a Param elsewhere", "registers with one place", "a way back", "calls that save nothing", "calls that save some",
		"calls with a Dst that is live", "calls with a Dst that is not", "calls without a Dst", "calls with Args", "running", "exit", "panic", "stuck", "deep", "words", "events")
}

// TestDrawnTexts takes what was made of texts, as built and as cleaned: it is never stuck.
func TestDrawnTexts(t *testing.T) {
	d, c := sample.Dice(2003), counts{}
	for i := range 800 {
		s := sample.Built(sample.DrawText(&d, 3+d.Below(40), i%2 == 0))
		if i%3 == 0 {
			s, _ = dce.Clean(s)
		}
		l, e := unssa.Lower(s)
		if e != api.OK {
			t.Fatal(e)
		}
		holdDrawn(t, &d, l, c, 250)
	}
	if c["stuck"] > 0 {
		t.Errorf("stuck: %d runs", c["stuck"])
	}
	c.hold(t, 20, "another order", "no slots", "slots", "a Param elsewhere", "registers with one place", "a way back", "calls that save nothing", "calls that save some",
		"calls with a Dst that is live", "calls with a Dst that is not", "running", "exit", "panic", "deep", "words", "events")
}

// drawWide draws a program of functions over so many registers that nothing makes stuck, whose blocks stand in any order. All registers of a function are set at its beginning.
func drawWide(d *sample.Dice, regs int) api.LIR {
	var l api.LIR
	n := 1 + d.Below(4)
	for i := range n {
		f := api.LFunc{Name: "f" + strconv.Itoa(i), Regs: regs}
		if i > 0 {
			f.Result, f.Params = d.Below(4), mixed(d, regs)[:min(regs, d.Below(api.MaxParams+1))]
		}
		l.Funcs = append(l.Funcs, f)
	}
	for i := range n {
		f := &l.Funcs[i]
		f.Blocks = drawBlocks(d, 1+d.Below(8), regs)
		for b := range f.Blocks {
			block := &f.Blocks[b]
			if block.Term.Kind == api.TermReturn && f.Result != api.TypeNone {
				block.Term.Value = d.Below(regs)
			}
			for range d.Below(2 + regs/4) {
				block.Body = append(block.Body, drawIns(d, l, i, regs))
			}
		}
		for _, r := range mixed(d, regs) {
			if !slices.Contains(f.Params, r) {
				f.Blocks[0].Body = slices.Insert(f.Blocks[0].Body, 0, api.LIns{Op: api.InsConst, Dst: r, Imm: d.Below(3)})
			}
		}
	}
	return l
}

// mixed are the numbers below n in a drawn order.
func mixed(d *sample.Dice, n int) (list []int) {
	for i := range n {
		list = slices.Insert(list, d.Below(i+1), i)
	}
	return list
}

// drawBlocks draws blocks without instructions that can all be reached: each leads to the next one of a row, which stand in any order, and mostly to another one as well.
func drawBlocks(d *sample.Dice, n, regs int) []api.LBlock {
	row := []int{0}
	for _, b := range mixed(d, n-1) {
		row = append(row, b+1)
	}
	blocks := make([]api.LBlock, n)
	for i, b := range row {
		on := row[min(i+1, n-1)]
		switch {
		case i == n-1:
			blocks[b].Term = back(-1)
		case d.Below(4) == 0:
			blocks[b].Term = jump(on)
		case d.Below(2) == 0:
			blocks[b].Term = branch(d.Below(regs), on, d.Below(n))
		default:
			blocks[b].Term = branch(d.Below(regs), d.Below(n), on)
		}
	}
	return blocks
}

func drawIns(d *sample.Dice, l api.LIR, at, regs int) api.LIns {
	reg := func() int { return d.Below(regs) }
	switch d.Below(8) {
	case 0:
		return api.LIns{Op: api.InsConst, Dst: reg(), Imm: d.Below(3)}
	case 1:
		return api.LIns{Op: d.OneOf(api.InsMove, api.InsNeg, api.InsInv), Dst: reg(), Args: []int{reg()}}
	case 2:
		return api.LIns{Op: d.OneOf(api.InsAdd, api.InsSub, api.InsXor, api.InsLt, api.InsEq), Dst: reg(), Args: []int{reg(), reg()}}
	case 3, 4:
		called := d.Below(len(l.Funcs))
		if d.Below(8) > 0 && at+1 < len(l.Funcs) { // else most runs would never come back
			called = at + 1 + d.Below(len(l.Funcs)-at-1)
		}
		x := api.LIns{Op: api.InsCall, Imm: called, Dst: -1}
		for range l.Funcs[called].Params {
			x.Args = append(x.Args, reg())
		}
		if l.Funcs[called].Result != api.TypeNone && d.Below(4) > 0 {
			x.Dst = reg()
		}
		return x
	}
	return api.LIns{Op: api.InsPrintInt, Dst: -1, Args: []int{reg()}}
}

func TestDrawnWide(t *testing.T) {
	d, c := sample.Dice(2004), counts{}
	for range 1500 {
		holdDrawn(t, &d, drawWide(&d, 1+d.Below(14)), c, 250)
	}
	for range 150 {
		holdDrawn(t, &d, drawWide(&d, 15+d.Below(30)), c, 400)
	}
	if c["stuck"] > 0 {
		t.Errorf("stuck: %d runs", c["stuck"])
	}
	c.hold(t, 20, "another order", "no slots", "slots", "many slots", "a Param in a slot", "a Param elsewhere", "registers with one place", "a way back", "calls that save nothing", "calls that save some", "calls that save all",
		"calls with a Dst that is live", "calls with a Dst that is not", "calls with a Dst in a slot", "calls without a Dst", "calls with Args", "running", "exit", "deep", "events")
}

// TestDrawnNumbers: registers of other numbers, in the same order, have the same places.
func TestDrawnNumbers(t *testing.T) {
	d := sample.Dice(262144)
	for range 300 {
		l := drawWide(&d, 1+d.Below(14))
		a := hold(t, l)
		far := sample.SpacedLIR(l)
		for i := range far.Funcs {
			spread(&d, &far.Funcs[i])
		}
		if b := hold(t, far); all(b) != all(a) {
			t.Fatalf("P2002: of\n%s\nis made\n%s\nwant\n%s", sample.TellLIR(far), sample.TellALIR(b), sample.TellALIR(a))
		}
	}
}

// spread gives the registers of a function, whose lists may be written over, greater numbers in the same order.
func spread(d *sample.Dice, f *api.LFunc) {
	numbers := []int{d.Below(50)}
	for range f.Regs {
		numbers = append(numbers, numbers[len(numbers)-1]+1+d.Below(50))
	}
	all := func(list []int) {
		for i, r := range list {
			list[i] = numbers[r]
		}
	}
	one := func(r *int) {
		if *r != -1 {
			*r = numbers[*r]
		}
	}
	all(f.Params)
	for b := range f.Blocks {
		for i := range f.Blocks[b].Body {
			x := &f.Blocks[b].Body[i]
			all(x.Args)
			one(&x.Dst)
		}
		one(&f.Blocks[b].Term.Value)
	}
	f.Regs = numbers[f.Regs]
}

// every calls do for every row of n of the choices.
func every[T any](n int, choices []T, do func(row []T)) {
	digits, row := make([]int, n), make([]T, n)
	for {
		for i, d := range digits {
			row[i] = choices[d]
		}
		do(row)
		i := 0
		for i < n && digits[i] == len(choices)-1 {
			digits[i] = 0
			i++
		}
		if i == n {
			return
		}
		digits[i]++
	}
}

// TestAllSmall: every function of two blocks and of three, of a few bodies with calls and all ends, that is LIR; each with a Param, and one with nine registers more that live through it.
func TestAllSmall(t *testing.T) {
	call := func(dst int, args ...int) api.LIns { return api.LIns{Op: api.InsCall, Dst: dst, Imm: 1, Args: args} }
	set, show := api.LIns{Op: api.InsConst, Dst: 1, Imm: 7}, api.LIns{Op: api.InsPrintInt, Dst: -1, Args: []int{1}}
	bodies := [][]api.LIns{nil, {call(-1, 0)}, {call(1, 0)}, {set, call(0, 0)}, {show, call(-1, 1)}}
	counted := 0
	holdAll := func(n int, bodies [][]api.LIns, ends []api.Term) {
		var blocks []api.LBlock
		for _, body := range bodies {
			for _, end := range ends {
				blocks = append(blocks, api.LBlock{Body: body, Term: end})
			}
		}
		every(n, blocks, func(row []api.LBlock) {
			l := api.LIR{Funcs: []api.LFunc{
				{Name: "main", Regs: 1, Blocks: []api.LBlock{{Body: []api.LIns{{Op: api.InsInput}, {Op: api.InsCall, Dst: -1, Imm: 2, Args: []int{0}}}, Term: back(-1)}}},
				{Name: "called", Params: []int{0}, Regs: 2, Result: api.TypeInt, Blocks: []api.LBlock{{Body: []api.LIns{{Op: api.InsConst, Dst: 1}}, Term: back(1)}}},
				{Name: "f", Params: []int{0}, Regs: 2, Blocks: row},
			}}
			if lir.Check(l) != api.OK {
				return
			}
			counted++
			holdRuns(t, l, hold(t, l), []int{1}, 30)
			wide := crowded(l, 2)
			holdRuns(t, wide, hold(t, wide), []int{1}, 60)
		})
	}
	holdAll(1, bodies, []api.Term{jump(0), branch(0, 0, 0), branch(1, 0, 0), back(-1)})
	holdAll(2, bodies, []api.Term{jump(0), jump(1), branch(0, 0, 0), branch(0, 0, 1), branch(1, 1, 0), branch(1, 1, 1), back(-1)})
	holdAll(3, bodies[1:3], []api.Term{jump(1), jump(2), branch(0, 2, 1), branch(1, 0, 2), back(-1)})
	if counted < 500 {
		t.Errorf("only %d programs", counted)
	}
	t.Log(counted)
}

// crowded lets nine registers more live through a function: they are set where it begins and read where it ends.
func crowded(l api.LIR, at int) api.LIR {
	l = sample.SpacedLIR(l)
	f := &l.Funcs[at]
	first := f.Regs
	f.Regs += 9
	for b := range f.Blocks {
		body := slices.Clone(f.Blocks[b].Body)
		for r := first; r < f.Regs; r++ {
			if b == 0 {
				body = slices.Insert(body, 0, api.LIns{Op: api.InsConst, Dst: r, Imm: r})
			}
			if f.Blocks[b].Term.Kind == api.TermReturn {
				body = append(body, api.LIns{Op: api.InsPrintInt, Dst: -1, Args: []int{r}})
			}
		}
		f.Blocks[b].Body = body
	}
	return l
}

// TestDrawnWrong takes programs that are right, with one thing turned in them: they are refused just as lir.Check refuses them.
func TestDrawnWrong(t *testing.T) {
	d := sample.Dice(2001)
	often := map[api.Errno]int{}
	for range 6000 {
		l := sample.SpacedLIR(sample.DrawLIR(&d))
		turnOne(&d, &l)
		want := lir.Check(l)
		often[want]++
		if want == api.OK {
			hold(t, l)
		} else if a, e := alloc.Allocate(l); e != want || a.Funcs != nil || a.Main != 0 {
			t.Fatalf("P2001: %v, want %v of %+v", e, want, l)
		}
	}
	for _, e := range []api.Errno{api.OK, api.ErrLIRForm, api.ErrLIRReach, api.ErrLIRUnset} {
		if often[e] < 50 {
			t.Errorf("only %d programs: %v", often[e], e)
		}
	}
	t.Log(often)
}

func turnOne(d *sample.Dice, l *api.LIR) {
	f := &l.Funcs[d.Below(len(l.Funcs))]
	b := &f.Blocks[d.Below(len(f.Blocks))]
	number := func(old int) int { return d.OneOf(old-1, old+1, -1, 0, 1, 5, 6, math.MaxInt, math.MinInt) }
	switch what := d.Below(12); {
	case what == 0:
		l.Main = number(l.Main)
	case what == 1:
		f.Regs = number(f.Regs)
	case what == 2:
		f.Params = append(f.Params, d.Below(9))
	case what == 3 && len(b.Term.To) > 0:
		b.Term.To[d.Below(len(b.Term.To))] = d.Below(len(f.Blocks) + 1)
	case what == 4:
		b.Term.Value = number(b.Term.Value)
	case what == 5:
		f.Blocks = append(f.Blocks, api.LBlock{Term: jump(0)})
	case len(b.Body) > 0 && what == 6:
		b.Body[d.Below(len(b.Body))].Op = d.Below(35)
	case len(b.Body) > 0 && what == 7:
		b.Body[d.Below(len(b.Body))].Dst = d.OneOf(-1, 0, 1, 9, 99)
	case len(b.Body) > 0:
		at := d.Below(len(b.Body))
		b.Body = slices.Delete(b.Body, at, at+1)
	}
}
