package live_test

import (
	"slices"
	"testing"

	"quern/api"
	"quern/lir"
	"quern/live"
	"quern/order"
	"quern/sample"
	"quern/unssa"
)

// every calls do for every row of n of the choices.
func every[T any](n int, choices []T, do func(row []T)) {
	digits, row := make([]int, n), make([]T, n)
	for {
		for i, d := range digits {
			row[i] = choices[d]
		}
		do(row)
		i := 0
		for i < n && digits[i] == len(choices)-1 {
			digits[i] = 0
			i++
		}
		if i == n {
			return
		}
		digits[i]++
	}
}

func ins(op, dst int, args ...int) api.LIns { return api.LIns{Op: op, Dst: dst, Args: args} }

// blocksOf are the blocks that have one of the bodies and one of the ends.
func blocksOf(bodies [][]api.LIns, ends []api.Term) (all []api.LBlock) {
	for _, body := range bodies {
		for _, end := range ends {
			all = append(all, api.LBlock{Body: body, Term: end})
		}
	}
	return all
}

// TestAllSmall: every function of a few blocks over one register, or two, of a few bodies and all ends.
func TestAllSmall(t *testing.T) {
	set, read, both := ins(api.InsConst, 0), ins(api.InsPrintInt, -1, 0), ins(api.InsNeg, 0, 0)
	one := [][]api.LIns{nil, {set}, {read}, {both}, {set, read}, {read, set}}
	holdAll := func(n, regs int, blocks []api.LBlock) {
		every(n, blocks, func(row []api.LBlock) { hold(t, api.LFunc{Regs: regs, Blocks: row}) })
	}
	holdAll(1, 1, blocksOf(one, []api.Term{jump(0), branch(0, 0, 0), back(-1), crash(0)}))
	holdAll(2, 1, blocksOf(one, []api.Term{jump(0), jump(1), branch(0, 0, 0), branch(0, 0, 1), branch(0, 1, 0), branch(0, 1, 1), back(-1), crash(0)}))
	holdAll(3, 1, blocksOf(one[:3], []api.Term{jump(0), jump(1), jump(2), branch(0, 0, 1), branch(0, 2, 1), branch(0, 2, 0), back(-1)}))
	two := [][]api.LIns{nil, {set}, {read}, {ins(api.InsMove, 0, 1)}, {ins(api.InsMove, 1, 0)}, {ins(api.InsAdd, 1, 1, 0), set}}
	holdAll(2, 2, blocksOf(two, []api.Term{jump(0), jump(1), branch(0, 0, 1), branch(1, 1, 0), branch(1, 1, 1), back(-1), crash(1)}))
}

// TestAllThree: every way that three blocks without instructions, or with one, may lead, one of them reading a register and another one setting it.
func TestAllThree(t *testing.T) {
	ends := []api.Term{back(-1)}
	for a := range 3 {
		ends = append(ends, jump(a))
		for b := range 3 {
			ends = append(ends, branch(1, a, b))
		}
	}
	every(3, ends, func(row []api.Term) {
		for reads := range 3 {
			for sets := range 3 {
				f := api.LFunc{Regs: 2, Blocks: []api.LBlock{{Term: row[0]}, {Term: row[1]}, {Term: row[2]}}}
				f.Blocks[sets].Body = append(f.Blocks[sets].Body, ins(api.InsConst, 0))
				f.Blocks[reads].Body = append(f.Blocks[reads].Body, ins(api.InsPrintInt, -1, 0))
				hold(t, f)
			}
		}
	})
}

// mixed are the numbers below n in a drawn order.
func mixed(d *sample.Dice, n int) (list []int) {
	for i := range n {
		list = slices.Insert(list, d.Below(i+1), i)
	}
	return list
}

// draw draws a formed function; what is not set on some way and what can't be reached may be in it.
func draw(d *sample.Dice, blocks, regs, body int) api.LFunc {
	f := api.LFunc{Regs: regs, Result: d.Below(4), Params: mixed(d, regs)[:min(d.Below(api.MaxParams+1), d.Below(regs+1))]}
	reg := func() int { return d.Below(regs) }
	for range blocks {
		var b api.LBlock
		for range d.Below(body + 1) {
			b.Body = append(b.Body, drawIns(d, reg))
		}
		switch d.Below(8) {
		case 0:
			b.Term = crash(reg())
		case 1:
			b.Term = back(reg())
			if f.Result == api.TypeNone {
				b.Term.Value = -1
			}
		case 2, 3:
			b.Term = jump(d.Below(blocks))
		default:
			b.Term = branch(reg(), d.Below(blocks), d.Below(blocks))
		}
		f.Blocks = append(f.Blocks, b)
	}
	return f
}

func drawIns(d *sample.Dice, reg func() int) api.LIns {
	switch d.Below(10) {
	case 0, 1, 2:
		return ins(d.OneOf(api.InsConst, api.InsInput), reg())
	case 3:
		return ins(d.OneOf(api.InsNeg, api.InsMove, api.InsNot), reg(), reg())
	case 4:
		return ins(d.OneOf(api.InsAdd, api.InsLt, api.InsLoad), reg(), reg(), reg())
	case 5:
		return ins(api.InsStore, -1, reg(), reg(), reg())
	case 6:
		return ins(d.OneOf(api.InsPrintInt, api.InsPrintBool), -1, reg())
	case 7:
		x := ins(api.InsTrapBound, -1, reg(), reg())
		x.Imm = 1 + d.Below(5)
		return x
	}
	x := ins(api.InsCall, reg())
	if d.Below(3) == 0 {
		x.Dst = -1
	}
	x.Imm = d.Below(1000)
	for range d.Below(api.MaxParams + 1) {
		x.Args = append(x.Args, reg())
	}
	return x
}

func TestDrawn(t *testing.T) {
	d := sample.Dice(1701)
	for range 6000 {
		f := draw(&d, 1+d.Below(6), 1+d.Below(6), 1+d.Below(4))
		hold(t, f, inOrder(f), mixed(&d, len(f.Blocks)))
	}
	for range 300 {
		f := draw(&d, 1+d.Below(12), 1+d.Below(20), 1+d.Below(6))
		hold(t, f, inOrder(f), mixed(&d, len(f.Blocks)))
	}
}

// drawSparse draws a function in which each register is set and read in few places: so that what is live is neither all nor nothing.
func drawSparse(d *sample.Dice, blocks, regs int) api.LFunc {
	f := draw(d, blocks, regs, 0)
	for r := range regs {
		for range 1 + d.Below(3) {
			b := &f.Blocks[d.Below(blocks)].Body
			*b = slices.Insert(*b, d.Below(len(*b)+1), ins(api.InsConst, r))
			b = &f.Blocks[d.Below(blocks)].Body
			*b = slices.Insert(*b, d.Below(len(*b)+1), ins(api.InsPrintInt, -1, r))
		}
	}
	return f
}

// settled asks again and again, instruction by instruction, until nothing changes; and along the line notes each place at which a register is set, read or live.
func settled(f api.LFunc, line []int) (ahead, behind [][]int, intervals []api.Interval) {
	sets := make([][]bool, len(f.Blocks)) // ahead of each block
	for b := range sets {
		sets[b] = make([]bool, f.Regs)
	}
	after := func(b int) []bool {
		is := make([]bool, f.Regs)
		for _, to := range f.Blocks[b].Term.To {
			for r := range is {
				is[r] = is[r] || sets[to][r]
			}
		}
		return is
	}
	for changed := true; changed; {
		changed = false
		for b := range f.Blocks {
			is := after(b)
			for at := len(f.Blocks[b].Body); at >= 0; at-- {
				stepBack(f, point{b, at}, is)
			}
			changed = changed || !slices.Equal(is, sets[b])
			sets[b] = is
		}
	}
	for b := range f.Blocks {
		ahead, behind = append(ahead, which(sets[b])), append(behind, which(after(b)))
	}
	return ahead, behind, spans(f, line, after)
}

// stepBack makes what is live behind a point what is live ahead of it.
func stepBack(f api.LFunc, p point, is []bool) {
	reads, set := does(f, p)
	if set >= 0 {
		is[set] = false
	}
	for _, r := range reads {
		is[r] = true
	}
}

func which(is []bool) (list []int) {
	for r, x := range is {
		if x {
			list = append(list, r)
		}
	}
	return list
}

func spans(f api.LFunc, line []int, after func(b int) []bool) (list []api.Interval) {
	spans := make([]api.Interval, f.Regs)
	for r := range spans {
		spans[r] = api.Interval{Reg: r, From: 1 << 60, To: -1}
	}
	note := func(r, place int) { spans[r].From, spans[r].To = min(spans[r].From, place), max(spans[r].To, place) }
	for _, p := range f.Params {
		note(p, 0)
	}
	k := 1
	for _, b := range line {
		end := k + len(f.Blocks[b].Body)
		is := after(b)
		for at := end - k; at >= 0; at-- {
			for _, r := range which(is) {
				note(r, 2*(k+at)+1)
			}
			if _, set := does(f, point{b, at}); set >= 0 {
				note(set, 2*(k+at)+1)
			}
			stepBack(f, point{b, at}, is)
			for _, r := range which(is) {
				note(r, 2*(k+at))
			}
		}
		k = end + 1
	}
	for _, x := range spans {
		if x.To >= 0 {
			list = append(list, x)
		}
	}
	slices.SortStableFunc(list, func(a, b api.Interval) int { return a.From - b.From })
	return list
}

// holdWide holds a function with too many registers and blocks to go all ways.
func holdWide(t *testing.T, f api.LFunc, line []int) {
	t.Helper()
	wantAhead, wantBehind, want := settled(f, line)
	ahead, behind := liveOf(t, f)
	if tellLists(ahead) != tellLists(wantAhead) || tellLists(behind) != tellLists(wantBehind) {
		t.Fatalf("P1702: %d blocks, %d registers: %s", len(f.Blocks), f.Regs, tell(f))
	}
	if is := intervalsOf(t, f, line); !slices.Equal(is, want) {
		t.Fatalf("P1704: %d blocks, %d registers, in the line %v: %s, want %s", len(f.Blocks), f.Regs, line, tellIntervals(is), tellIntervals(want))
	}
}

// TestSettledAgainstOracle: the two oracles say the same.
func TestSettledAgainstOracle(t *testing.T) {
	d := sample.Dice(99)
	for range 500 {
		f := draw(&d, 1+d.Below(6), 1+d.Below(6), 3)
		line := mixed(&d, len(f.Blocks))
		ahead, behind, list := settled(f, line)
		wantAhead, wantBehind := oracleLive(f)
		if tellLists(ahead) != tellLists(wantAhead) || tellLists(behind) != tellLists(wantBehind) || !slices.Equal(list, oracleIntervals(f, line)) {
			t.Fatalf("%s", tell(f))
		}
	}
}

// TestDrawnWide takes numbers of registers and of blocks about those of which one word, and more of them, have bits.
func TestDrawnWide(t *testing.T) {
	d := sample.Dice(64128256)
	for _, regs := range []int{1, 2, 63, 64, 65, 127, 128, 129, 200, 255, 256, 257, 300, 511, 512, 513, 1000} {
		for _, blocks := range []int{1, 2, 7, 63, 64, 65, 100, 128, 129} {
			for range 2 {
				f := drawSparse(&d, blocks, regs)
				holdWide(t, f, mixed(&d, blocks))
			}
			holdWide(t, draw(&d, blocks, regs, 12), mixed(&d, blocks))
		}
	}
}

// functions draws functions that Check lets through: of LIR that was drawn, and of what texts become.
func functions(t *testing.T, often int, do func(f api.LFunc)) {
	t.Helper()
	d := sample.Dice(1706)
	for turn := range often {
		l := sample.DrawLIR(&d)
		if turn%2 == 0 {
			l, _ = unssa.Lower(sample.Built(sample.DrawText(&d, 4+turn%20, turn%4 == 0)))
		}
		if e := lir.Check(l); e != api.OK {
			t.Fatalf("%v of %s", e, sample.TellLIR(l))
		}
		for _, f := range l.Funcs {
			do(f)
		}
	}
}

// lineOf is the line of chapter 16.
func lineOf(f api.LFunc) []int {
	var to [][]int
	for _, b := range f.Blocks {
		to = append(to, b.Term.To)
	}
	return order.Line(to)
}

func TestFunctions(t *testing.T) {
	blocks, regs := 0, 0
	functions(t, 300, func(f api.LFunc) {
		holdWide(t, f, lineOf(f))
		blocks, regs = max(blocks, len(f.Blocks)), max(regs, f.Regs)
	})
	if blocks < 20 || regs < 130 {
		t.Errorf("no function has more than %d blocks, %d registers", blocks, regs)
	}
}

// TestP1706Around: each register that is live at a place has an interval around it, by what Live itself tells too.
func TestP1706Around(t *testing.T) {
	d := sample.Dice(6071)
	check := func(f api.LFunc, line []int) {
		byReg := map[int]api.Interval{}
		for _, x := range intervalsOf(t, f, line) {
			byReg[x.Reg] = x
		}
		around := func(registers []int, place int) {
			for _, r := range registers {
				if x, is := byReg[r]; !is || x.From > place || x.To < place {
					t.Fatalf("P1706: r%d is live at %d: %v, of %s", r, place, x, tell(f))
				}
			}
		}
		ahead, behind := liveOf(t, f)
		k := 1
		for _, b := range line {
			around(ahead[b], 2*k)
			is := make([]bool, f.Regs)
			for _, r := range behind[b] {
				is[r] = true
			}
			for at := len(f.Blocks[b].Body); at >= 0; at-- {
				around(which(is), 2*(k+at)+1)
				stepBack(f, point{b, at}, is)
				around(which(is), 2*(k+at))
			}
			k += len(f.Blocks[b].Body) + 1
		}
	}
	functions(t, 300, func(f api.LFunc) {
		check(f, lineOf(f))
		check(f, mixed(&d, len(f.Blocks)))
	})
	for range 2000 {
		f := draw(&d, 1+d.Below(10), 1+d.Below(10), 4)
		check(f, mixed(&d, len(f.Blocks)))
	}
}

// TestP1706Beginning: of what Check lets through nothing but Params is live ahead of block 0; of what it refuses with ErrLIRUnset alone something is.
func TestP1706Beginning(t *testing.T) {
	some := 0
	functions(t, 600, func(f api.LFunc) {
		ahead, _ := liveOf(t, f)
		for _, r := range ahead[0] {
			if !slices.Contains(f.Params, r) {
				t.Fatalf("P1706: r%d is live ahead of block 0 of %s", r, tell(f))
			}
		}
		if len(ahead[0]) > 0 {
			some++
		}
	})
	if some < 100 {
		t.Errorf("only %d functions read their Params", some)
	}
	d := sample.Dice(142)
	often := map[api.Errno]int{}
	for range 20000 {
		f := draw(&d, 1+d.Below(4), 1+d.Below(4), 4)
		f.Name = "f"
		for b := range f.Blocks {
			f.Blocks[b].Body = slices.DeleteFunc(f.Blocks[b].Body, func(x api.LIns) bool { return x.Op == api.InsCall })
		}
		l := api.LIR{Main: 1, Funcs: []api.LFunc{f, first("main()\n0: return")}}
		e := lir.Check(l)
		often[e]++
		ahead, _, _ := live.Live(f)
		others := slices.ContainsFunc(ahead[0], func(r int) bool { return !slices.Contains(f.Params, r) })
		if e == api.OK && others || e == api.ErrLIRUnset && !others {
			t.Fatalf("P1706: %v, and %v is live ahead of block 0 of %s", e, ahead[0], tell(f))
		}
	}
	if often[api.OK] < 500 || often[api.ErrLIRUnset] < 500 {
		t.Errorf("%v", often)
	}
}
