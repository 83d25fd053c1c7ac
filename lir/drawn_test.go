package lir_test

import (
	"math"
	"slices"
	"testing"

	"quern/api"
	"quern/lir"
	"quern/sample"
)

// TestDrawnAgainstOracle runs drawn programs at once, step by step, and in pieces.
func TestDrawnAgainstOracle(t *testing.T) {
	d := sample.Dice(20261117)
	often := map[string]int{}
	count := func(what string, is bool) {
		if is {
			often[what]++
		}
	}
	const fuel = 600
	for range 20000 {
		l, input := sample.DrawLIR(&d), d.Input()
		want := oracleRun(l, input, fuel, api.MaxEvents)
		m := start(t, l, input)
		d.Drive(m, fuel)
		if is := m.Outcome(); told(is) != told(want) {
			t.Fatalf("%s, input %v:\n%s, want\n%s", sample.TellLIR(l), input, told(is), told(want))
		}
		count(sample.Ending(api.Outcome{End: want.End, Kind: want.Kind}), true)
		count("steps", want.Steps > 50)
		count("depth", want.Depth > 2 && want.End == api.Exit)
		count("events", len(want.Events) > 10)
		count("words", want.Words > 100)
	}
	for _, kind := range []string{"running", "exit", "panic divide", "panic index", "panic shift", "panic make", "panic input", "panic user 0", "panic heap",
		"stuck block", "stuck element", "stuck zero", "stuck shift", "stuck bool", "steps", "depth", "events", "words"} {
		if often[kind] < 20 {
			t.Errorf("only %d runs: %s", often[kind], kind)
		}
	}
	t.Log(often)
}

// TestDrawnAtEveryStep holds the outcome behind each step, and that an outcome is the same with just so much fuel.
func TestDrawnAtEveryStep(t *testing.T) {
	d := sample.Dice(77)
	for range 400 {
		l, input := sample.DrawLIR(&d), d.Input()
		m := start(t, l, input)
		for steps := range 80 {
			want := oracleRun(l, input, steps, api.MaxEvents)
			if is := m.Outcome(); told(is) != told(want) {
				t.Fatalf("%s, input %v, %d steps:\n%s, want\n%s", sample.TellLIR(l), input, steps, told(is), told(want))
			}
			if made := m.Step(); made != (want.End == api.Running) {
				t.Fatalf("%s, input %v, %d steps: a step: %t", sample.TellLIR(l), input, steps, made)
			}
		}
	}
}

// TestP1407DrawnInTurns lets many runs go in turns, each as if it were alone.
func TestP1407DrawnInTurns(t *testing.T) {
	d := sample.Dice(1407)
	type run struct {
		l     api.LIR
		input []int
		m     *lir.Machine
		fuel  int
	}
	for range 60 {
		var runs []*run
		for range 6 {
			r := &run{l: sample.DrawLIR(&d), input: d.Input()}
			r.m = start(t, r.l, r.input)
			twin := *r
			twin.m = start(t, r.l, r.input)
			runs = append(runs, r, &twin)
		}
		for range 200 {
			r := runs[d.Below(len(runs))]
			fuel := d.Below(9)
			r.m.Run(fuel)
			r.fuel += fuel
		}
		for _, r := range runs {
			if is, want := r.m.Outcome(), oracleRun(r.l, r.input, r.fuel, api.MaxEvents); told(is) != told(want) {
				t.Fatalf("%s, input %v, %d steps:\n%s, want\n%s", sample.TellLIR(r.l), r.input, r.fuel, told(is), told(want))
			}
		}
	}
}

// drawFunc draws a function of few registers and blocks in which each instruction, or at least each number, may be wrong; mostly all is right but that registers may be not set and blocks not reached.
func drawFunc(d *sample.Dice, name string, wrong int) api.LFunc {
	odd := func(right int) int {
		if wrong > 0 && d.Below(wrong) == 0 {
			return d.OneOf(-2, -1, 0, 1, 2, 3, 4, 5, 6, 7, 8, 9, right-1, right+1, math.MinInt, math.MaxInt, api.MaxRegs, api.MaxRegs+1)
		}
		return right
	}
	f := api.LFunc{Name: name, Regs: 1 + d.Below(6)}
	reg := func() int { return odd(d.Below(f.Regs)) }
	n := 1 + d.Below(6)
	for at := range n {
		var b api.LBlock
		for range d.Below(4) {
			x := api.LIns{Op: odd(d.OneOf(api.InsConst, 1+d.Below(31))), Dst: reg()}
			s := table[x.Op]
			if s == "" || x.Op == api.InsCall {
				s = "1 r z"
				x.Op = odd(api.InsMove)
			}
			for range int(s[0]-'0') + odd(1) - 1 {
				x.Args = append(x.Args, reg())
				if len(x.Args) > 12 {
					break
				}
			}
			if s[2] == '-' {
				x.Dst = odd(-1)
			}
			x.Imm = odd(0)
			if s[4] == 'k' {
				x.Imm = odd(1 + d.Below(5))
			}
			b.Body = append(b.Body, x)
		}
		kind := d.OneOf(api.TermJump, api.TermJump, api.TermBranch, api.TermBranch, api.TermBranch, api.TermReturn, api.TermPanic)
		if at+1 < n && d.Below(10) > 0 {
			kind = d.OneOf(api.TermJump, api.TermBranch, api.TermBranch)
		}
		b.Term = api.Term{Kind: odd(kind), Value: odd(-1)}
		if kind == api.TermBranch || kind == api.TermPanic {
			b.Term.Value = reg()
		}
		for range []int{0, 1, 2, 0, 0}[kind] + odd(1) - 1 {
			to := d.Below(n)
			if at+1 < n && len(b.Term.To) == 0 && d.Below(8) > 0 {
				to = at + 1
			}
			b.Term.To = append(b.Term.To, odd(to))
			if len(b.Term.To) > 5 {
				break
			}
		}
		f.Blocks = append(f.Blocks, b)
	}
	return f
}

// drawProgram draws a few of such functions, all but main with Params.
func drawProgram(d *sample.Dice, wrong int) api.LIR {
	var l api.LIR
	for k := range 1 + d.Below(2)*d.Below(3) {
		f := drawFunc(d, string(rune('a'+k)), wrong)
		for p := range f.Regs {
			if k > 0 && d.Below(3) == 0 {
				f.Params = append(f.Params, p)
			}
		}
		l.Funcs = append(l.Funcs, f)
	}
	return l
}

// TestP1403DrawnAgainstOracle holds Check against the oracle that goes all ways.
func TestP1403DrawnAgainstOracle(t *testing.T) {
	d := sample.Dice(1403)
	often := map[api.Errno]int{}
	for i := range 150000 {
		wrong := 0
		if i%3 == 0 {
			wrong = 300
		}
		l := drawProgram(&d, wrong)
		want := oracleCheck(l)
		if is := lir.Check(l); is != want {
			t.Fatalf("%v, want %v of %+v", is, want, l)
		}
		often[want]++
	}
	for _, e := range []api.Errno{api.OK, api.ErrLIRForm, api.ErrLIRReach, api.ErrLIRUnset} {
		if often[e] < 2000 {
			t.Errorf("only %d programs: %v", often[e], e)
		}
	}
	t.Log(often)
}

// TestP1408 runs what Check takes of programs that are drawn without a thought of what is set: the oracle throws where a register is read that was not set in its activation.
func TestP1408(t *testing.T) {
	d := sample.Dice(1408)
	runs, loops := 0, 0
	for range 60000 {
		l := drawProgram(&d, 0)
		for k := range l.Funcs { // calls of all functions, each with as many Args as there are Params
			body := &l.Funcs[0].Blocks[d.Below(len(l.Funcs[0].Blocks))].Body
			x := api.LIns{Op: api.InsCall, Dst: -1, Imm: k}
			for range l.Funcs[k].Params {
				x.Args = append(x.Args, d.Below(l.Funcs[0].Regs))
			}
			*body = append(*body, x)
		}
		if lir.Check(l) != api.OK {
			continue
		}
		input := d.Input()
		want := oracleRun(l, input, 100, api.MaxEvents)
		if is, _ := start(t, l, input).Run(100); told(is) != told(want) {
			t.Fatalf("%s, input %v:\n%s, want\n%s", sample.TellLIR(l), input, told(is), told(want))
		}
		runs++
		if want.Steps > 20 {
			loops++
		}
	}
	if runs < 1000 || loops < 200 {
		t.Errorf("only %d runs, %d of them long", runs, loops)
	}
}

// TestP1403TurnedAgainstOracle takes programs that are right, with one thing turned in them.
func TestP1403TurnedAgainstOracle(t *testing.T) {
	d := sample.Dice(3041)
	often := map[api.Errno]int{}
	for range 40000 {
		l := sample.DrawLIR(&d)
		if e := lir.Check(l); e != api.OK || oracleCheck(l) != api.OK {
			t.Fatalf("%v of what is right: %s", e, sample.TellLIR(l))
		}
		turnOne(&d, &l)
		want := oracleCheck(l)
		if is := lir.Check(l); is != want {
			t.Fatalf("%v, want %v of %+v", is, want, l)
		}
		often[want]++
	}
	for _, e := range []api.Errno{api.OK, api.ErrLIRForm, api.ErrLIRReach, api.ErrLIRUnset} {
		if often[e] < 300 {
			t.Errorf("only %d programs: %v", often[e], e)
		}
	}
	t.Log(often)
}

func turnOne(d *sample.Dice, l *api.LIR) {
	f := &l.Funcs[d.Below(len(l.Funcs))]
	b := &f.Blocks[d.Below(len(f.Blocks))]
	number := func(old int) int { return d.OneOf(old-1, old+1, -1, 0, 1, 5, 6, math.MaxInt, math.MinInt) }
	switch what := d.Below(16); {
	case what == 0:
		l.Main = number(l.Main)
	case what == 1:
		f.Regs = number(f.Regs)
	case what == 2:
		f.Result = number(f.Result)
	case what == 3:
		f.Name = []string{"", "x", "a", "b", "for", "9"}[d.Below(6)]
	case what == 4 && len(f.Params) > 0:
		f.Params[d.Below(len(f.Params))] = d.Below(9)
	case what == 5:
		f.Params = append(f.Params, d.Below(9))
	case what == 6 && len(b.Term.To) > 0:
		b.Term.To[d.Below(len(b.Term.To))] = d.Below(len(f.Blocks) + 1)
	case what == 7:
		b.Term.Value = number(b.Term.Value)
	case what == 8:
		b.Term = api.Term{Kind: 1 + d.Below(4), Value: d.OneOf(-1, 0), To: []int{0, 0}[:d.Below(3)]}
	case what == 9:
		f.Blocks = append(f.Blocks, api.LBlock{Term: jump(0)})
	case len(b.Body) > 0:
		turnIns(d, b, d.Below(len(b.Body)))
	}
}

func turnIns(d *sample.Dice, b *api.LBlock, at int) {
	x := &b.Body[at]
	switch what := d.Below(7); {
	case what == 0:
		x.Op = d.Below(35)
	case what == 1:
		x.Dst = d.OneOf(-1, 0, 1, 9, 99)
	case what == 2:
		x.Imm = d.OneOf(-1, 0, 1, 5, 6, 99)
	case what == 3 && len(x.Args) > 0:
		x.Args[d.Below(len(x.Args))] = d.OneOf(-1, 0, 1, 8, 99)
	case what == 4:
		x.Args = append(x.Args, 0)
	default:
		b.Body = slices.Delete(b.Body, at, at+1)
	}
}

// TestP1403WideAgainstFixpoint takes functions with more registers than one word has bits, and more blocks than all ways could be gone: what is set on all ways is asked again and again until nothing changes.
func TestP1403WideAgainstFixpoint(t *testing.T) {
	d := sample.Dice(64)
	often := map[api.Errno]int{}
	for range 3000 {
		const regs = 150
		n := 2 + d.Below(30)
		f := api.LFunc{Name: "main", Regs: regs}
		for at := range n {
			b := api.LBlock{Term: back(-1)}
			for range d.Below(120) {
				b.Body = append(b.Body, api.LIns{Op: api.InsConst, Dst: d.Below(regs)})
			}
			for range d.Below(3) {
				r := d.Below(regs)
				b.Body = slices.Insert(b.Body, d.Below(len(b.Body)+1), api.LIns{Op: api.InsMove, Dst: r, Args: []int{d.Below(regs)}})
			}
			if at+1 < n {
				b.Term = branch(d.Below(regs), at+1, d.Below(n))
			}
			f.Blocks = append(f.Blocks, b)
		}
		for range 400 + d.Below(200) { // most of them are set at the beginning
			set := api.LIns{Op: api.InsConst, Dst: d.Below(regs)}
			f.Blocks[0].Body = slices.Insert(f.Blocks[0].Body, 0, set)
		}
		want := api.OK
		if fixpointUnset(f) {
			want = api.ErrLIRUnset
		}
		if is := lir.Check(api.LIR{Funcs: []api.LFunc{f}}); is != want {
			t.Fatalf("%v, want %v of %+v", is, want, f)
		}
		often[want]++
	}
	if often[api.OK] < 300 || often[api.ErrLIRUnset] < 300 {
		t.Errorf("too few: %v", often)
	}
	t.Log(often)
}

// fixpointUnset tells whether a register is read that was not set on all ways ahead.
func fixpointUnset(f api.LFunc) bool {
	set := make([][]bool, len(f.Blocks)) // ahead of each block; nil: no way to it is known as yet
	set[0] = make([]bool, f.Regs)
	for changed := true; changed; {
		changed = false
		for b, block := range f.Blocks {
			now := slices.Clone(set[b])
			for _, x := range block.Body {
				if x.Dst >= 0 && now != nil {
					now[x.Dst] = true
				}
			}
			for _, to := range block.Term.To {
				switch {
				case now == nil:
				case set[to] == nil:
					set[to], changed = slices.Clone(now), true
				default:
					for r := range now {
						if set[to][r] && !now[r] {
							set[to][r], changed = false, true
						}
					}
				}
			}
		}
	}
	for b, block := range f.Blocks {
		now := slices.Clone(set[b])
		for _, x := range block.Body {
			for _, a := range x.Args {
				if !now[a] {
					return true
				}
			}
			now[x.Dst] = true
		}
		if v := block.Term.Value; v >= 0 && !now[v] {
			return true
		}
	}
	return false
}
