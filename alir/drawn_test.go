package alir_test

import (
	"math"
	"slices"
	"testing"

	"quern/alir"
	"quern/api"
	"quern/lir"
	"quern/sample"
)

// TestDrawnAgainstOracle runs drawn programs at once, step by step, and in pieces.
func TestDrawnAgainstOracle(t *testing.T) {
	d := sample.Dice(20261118)
	often := map[string]int{}
	count := func(what string, is bool) {
		if is {
			often[what]++
		}
	}
	const fuel = 600
	for range 20000 {
		a, input := sample.DrawALIR(&d), d.Input()
		want := oracleRun(a, input, fuel, api.MaxEvents)
		m := start(t, a, input)
		d.Drive(m, fuel)
		if is := m.Outcome(); told(is) != told(want) {
			t.Fatalf("%s, input %v:\n%s, want\n%s", sample.TellALIR(a), input, told(is), told(want))
		}
		count(sample.Ending(api.Outcome{End: want.End, Kind: want.Kind}), true)
		count("steps", want.Steps > 50)
		count("depth", want.Depth > 2 && want.End == api.Exit)
		count("events", len(want.Events) > 10)
		count("words", want.Words > 100)
	}
	for _, kind := range []string{"running", "exit", "panic divide", "panic index", "panic shift", "panic make", "panic input", "panic user 0", "panic heap",
		"stuck block", "stuck element", "stuck zero", "stuck shift", "stuck bool", "steps", "depth", "events", "words"} {
		if often[kind] < 20 {
			t.Errorf("only %d runs: %s", often[kind], kind)
		}
	}
	t.Log(often)
}

// TestDrawnAtEveryStep holds the outcome behind each step, and that an outcome is the same with just so much fuel.
func TestDrawnAtEveryStep(t *testing.T) {
	d := sample.Dice(77)
	for range 400 {
		a, input := sample.DrawALIR(&d), d.Input()
		m := start(t, a, input)
		for steps := range 80 {
			want := oracleRun(a, input, steps, api.MaxEvents)
			if is := m.Outcome(); told(is) != told(want) {
				t.Fatalf("%s, input %v, %d steps:\n%s, want\n%s", sample.TellALIR(a), input, steps, told(is), told(want))
			}
			if made := m.Step(); made != (want.End == api.Running) {
				t.Fatalf("%s, input %v, %d steps: a step: %t", sample.TellALIR(a), input, steps, made)
			}
		}
	}
}

// TestP1904AsChapter14 runs LIR, and ALIR that has a place for each of its registers and calls that save all: at every step both tell the same.
func TestP1904AsChapter14(t *testing.T) {
	d := sample.Dice(1404)
	for range 4000 {
		l, input := sample.DrawLIR(&d), d.Input()
		m, err := lir.New(l, input)
		if err != api.OK {
			t.Fatalf("%v: %s", err, sample.TellLIR(l))
		}
		n := start(t, sample.Placed(&d, l), input)
		for going := true; going && m.Outcome().Steps < 200; {
			if is, want := told(n.Outcome()), told(m.Outcome()); is != want {
				t.Fatalf("%s, input %v:\n%s, want\n%s", sample.TellLIR(l), input, is, want)
			}
			going = m.Step()
			if n.Step() != going {
				t.Fatalf("%s, input %v: of both runs one goes on", sample.TellLIR(l), input)
			}
		}
		if is, want := told(n.Outcome()), told(m.Outcome()); is != want {
			t.Fatalf("%s, input %v:\n%s, want\n%s", sample.TellLIR(l), input, is, want)
		}
	}
}

// TestP1905DrawnInTurns lets many runs go in turns, each as if it were alone.
func TestP1905DrawnInTurns(t *testing.T) {
	d := sample.Dice(1905)
	type run struct {
		a     api.ALIR
		input []int
		m     *alir.Machine
		fuel  int
	}
	for range 60 {
		var runs []*run
		for range 6 {
			r := &run{a: sample.DrawALIR(&d), input: d.Input()}
			r.m = start(t, r.a, r.input)
			twin := *r
			twin.m = start(t, r.a, r.input)
			runs = append(runs, r, &twin)
		}
		for range 200 {
			r := runs[d.Below(len(runs))]
			fuel := d.Below(9)
			r.m.Run(fuel)
			r.fuel += fuel
		}
		for _, r := range runs {
			if is, want := r.m.Outcome(), oracleRun(r.a, r.input, r.fuel, api.MaxEvents); told(is) != told(want) {
				t.Fatalf("%s, input %v, %d steps:\n%s, want\n%s", sample.TellALIR(r.a), r.input, r.fuel, told(is), told(want))
			}
		}
	}
}

// TestP1903TurnedAgainstOracle takes programs that are right, with one thing turned in them, or two.
func TestP1903TurnedAgainstOracle(t *testing.T) {
	d := sample.Dice(3091)
	often := map[api.Errno]int{}
	for i := range 60000 {
		a := sample.DrawALIR(&d)
		if e := alir.Check(a); e != api.OK || oracleCheck(a) != api.OK {
			t.Fatalf("%v of what is right: %s", e, sample.TellALIR(a))
		}
		for range 1 + i%2 {
			turnOne(&d, &a)
		}
		want := oracleCheck(a)
		if is := alir.Check(a); is != want {
			t.Fatalf("%v, want %v of %+v", is, want, a)
		}
		often[want]++
	}
	if often[api.OK] < 3000 || often[api.ErrALIRForm] < 3000 {
		t.Errorf("too few: %v", often)
	}
	t.Log(often)
}

func drawLoc(d *sample.Dice) api.Loc {
	return api.Loc{Kind: d.OneOf(0, 1, 1, 1, 2, 2, 2, 3, 4, -1), N: d.OneOf(0, 0, 1, 2, 3, 7, 8, 9, -1, math.MaxInt, math.MinInt)}
}

func turnOne(d *sample.Dice, a *api.ALIR) {
	f := &a.Funcs[d.Below(len(a.Funcs))]
	if len(f.Blocks) == 0 {
		return
	}
	b := &f.Blocks[d.Below(len(f.Blocks))]
	number := func(old int) int { return d.OneOf(old-1, old+1, -1, 0, 1, 5, 6, math.MaxInt, math.MinInt) }
	switch what := d.Below(17); {
	case what == 0:
		a.Main = number(a.Main)
	case what == 1:
		f.Slots = number(f.Slots)
	case what == 2:
		f.Result = number(f.Result)
	case what == 3:
		f.Name = []string{"", "x", "a", "b", "for", "9"}[d.Below(6)]
	case what == 4 && len(f.Params) > 0:
		f.Params[d.Below(len(f.Params))] = drawLoc(d)
	case what == 5:
		f.Params = append(f.Params, drawLoc(d))
	case what == 6 && len(b.Term.To) > 0:
		b.Term.To[d.Below(len(b.Term.To))] = d.Below(len(f.Blocks) + 1)
	case what == 7:
		b.Term.Value = drawLoc(d)
	case what == 8:
		b.Term = api.ATerm{Kind: d.Below(6), Value: drawLoc(d), To: []int{0, 0, 0}[:d.Below(4)]}
	case what == 9:
		f.Blocks = append(f.Blocks, api.ABlock{Term: jump(0)})
	case what == 10 && d.Below(4) == 0:
		f.Blocks = nil
	case len(b.Body) > 0:
		turnIns(d, b, d.Below(len(b.Body)))
	}
}

func turnIns(d *sample.Dice, b *api.ABlock, at int) {
	x := &b.Body[at]
	switch what := d.Below(9); {
	case what == 0:
		x.Op = d.Below(35)
	case what == 1:
		x.Dst = drawLoc(d)
	case what == 2:
		x.Imm = d.OneOf(-1, 0, 1, 5, 6, 99)
	case what == 3 && len(x.Args) > 0:
		x.Args[d.Below(len(x.Args))] = drawLoc(d)
	case what == 4:
		x.Args = append(x.Args, drawLoc(d))
	case what == 5 && len(x.Saves) > 0:
		x.Saves[d.Below(len(x.Saves))] = d.OneOf(-1, 0, 1, 2, 3, 4, 5, 6, 7, 8)
	case what == 6:
		x.Saves = append(x.Saves, d.OneOf(-1, 0, 5, 7, 8))
	case what == 7:
		x.Saves = nil
	default:
		b.Body = slices.Delete(b.Body, at, at+1)
	}
}
