package r16_test

import (
	"math"
	"slices"
	"testing"

	"quern/api"
	"quern/r16"
	"quern/sample"
)

// drawLimits draws limits, mostly such that some runs come to them.
func drawLimits(d *sample.Dice, c api.Code) api.Limits {
	frame := c.Funcs[c.Main].Frame
	return api.Limits{
		Stack: d.OneOf(min(frame+d.Below(30), api.MaxStack), min(frame+d.Below(30), api.MaxStack), frame, frame-d.Below(2), 40, 1000, 1000, api.MaxStack, api.MaxStack, api.MaxStack),
		Heap:  d.OneOf(d.Below(40), d.Below(40), 0, 1000, 1000, api.MaxHeap, api.MaxHeap, api.MaxHeap),
	}
}

// TestDrawnAgainstOracle runs drawn code at once, step by step, and in pieces.
func TestDrawnAgainstOracle(t *testing.T) {
	d := sample.Dice(20261118)
	often := map[string]int{}
	count := func(what string, is bool) {
		if is {
			often[what]++
		}
	}
	const fuel = 600
	for range 100000 {
		c, input := sample.DrawCode(&d), d.Input()
		limits := drawLimits(&d, c)
		want := oracleRun(c, input, limits, fuel, api.MaxEvents)
		m := start(t, c, input, limits)
		d.Drive(m, fuel)
		if is := m.Outcome(); told(is) != told(want) {
			t.Fatalf("%s, input %v, %+v:\n%s, want\n%s", sample.TellCode(c), input, limits, told(is), told(want))
		}
		count(sample.Ending(api.Outcome{End: want.End, Kind: want.Kind}), true)
		count("steps", want.Steps > 50 && want.Steps < fuel)
		count("depth", want.Depth > 2 && want.End == api.Exit)
		count("events", len(want.Events) > 10)
		count("words", want.Words > 100)
		count("no step", want.Depth == 0)
	}
	for _, kind := range []string{"running", "exit", "panic divide", "panic index", "panic shift", "panic make", "panic input", "panic user 0", "panic heap", "panic stack",
		"stuck block", "stuck element", "stuck zero", "stuck shift", "stuck bool", "steps", "depth", "events", "words", "no step"} {
		if often[kind] < 40 {
			t.Errorf("only %d runs: %s", often[kind], kind)
		}
	}
	t.Log(often)
}

// TestDrawnAtEveryStep holds the outcome behind each step, and that an outcome is the same with just so much fuel.
func TestDrawnAtEveryStep(t *testing.T) {
	d := sample.Dice(77)
	for range 600 {
		c, input := sample.DrawCode(&d), d.Input()
		limits := drawLimits(&d, c)
		m := start(t, c, input, limits)
		for steps := range 80 {
			want := oracleRun(c, input, limits, steps, api.MaxEvents)
			if is := m.Outcome(); told(is) != told(want) {
				t.Fatalf("%s, input %v, %+v, %d steps:\n%s, want\n%s", sample.TellCode(c), input, limits, steps, told(is), told(want))
			}
			if made := m.Step(); made != (want.End == api.Running) {
				t.Fatalf("%s, input %v, %+v, %d steps: a step: %t", sample.TellCode(c), input, limits, steps, made)
			}
		}
	}
}

// TestP2105RunAndRun: a Run and a Run behind it do what one Run does.
func TestP2105RunAndRun(t *testing.T) {
	d := sample.Dice(2105)
	for range 3000 {
		c, input := sample.DrawCode(&d), d.Input()
		limits := drawLimits(&d, c)
		a, b := d.Below(100), d.Below(100)
		one, two := start(t, c, input, limits), start(t, c, input, limits)
		want, _ := one.Run(a + b)
		two.Run(a)
		if is, err := two.Run(b); err != api.OK || told(is) != told(want) {
			t.Fatalf("%s, input %v, %+v, %d and %d steps:\n%s, want\n%s", sample.TellCode(c), input, limits, a, b, told(is), told(want))
		}
	}
}

// TestP2107 runs code with more and more stack and heap: once a run ends with no resource's panic, or does not end, nothing changes any more; and up to its end a run with less tells the same.
func TestP2107(t *testing.T) {
	d := sample.Dice(2107)
	stacks, heaps, others := 0, 0, 0
	for range 4000 {
		c, input := sample.DrawCode(&d), d.Input()
		limits := drawLimits(&d, c)
		least, _ := start(t, c, input, limits).Run(300)
		for range 6 {
			more := limits
			more.Stack = min(more.Stack+d.OneOf(0, 1, 5, 100, api.MaxStack), api.MaxStack)
			more.Heap = min(more.Heap+d.OneOf(0, 1, 5, 100, api.MaxHeap), api.MaxHeap)
			m := start(t, c, input, more)
			switch o, _ := m.Run(300); {
			case least.End == api.Panic && least.Kind == api.PanicStack:
				stacks++
				holdBeginning(t, c, least, o, more.Stack == limits.Stack)
			case least.End == api.Panic && least.Kind == api.PanicHeap:
				heaps++
				holdBeginning(t, c, least, o, more.Heap == limits.Heap)
			default:
				others++
				if told(o) != told(least) {
					t.Fatalf("%s, input %v, %+v: %s, and with %+v\n%s", sample.TellCode(c), input, limits, told(least), more, told(o))
				}
			}
		}
	}
	if stacks < 2000 || heaps < 1000 || others < 2000 {
		t.Errorf("only %d runs that end with PanicStack, %d with PanicHeap, %d others", stacks, heaps, others)
	}
}

// holdBeginning: where a run ends as it has no more of a resource, one with more of it goes on, or ends there too; one with more of the other one alone tells the same.
func holdBeginning(t *testing.T, c api.Code, least, o api.Outcome, same bool) {
	t.Helper()
	if same && told(least) != told(o) || o.Steps < least.Steps || len(o.Events) < len(least.Events) || !slices.Equal(o.Events[:len(least.Events)], least.Events) || o.Depth < least.Depth || o.Words < least.Words {
		t.Fatalf("%s: %s, and with more %s", sample.TellCode(c), told(least), told(o))
	}
}

// TestP2106DrawnInTurns lets many runs go in turns, each as if it were alone.
func TestP2106DrawnInTurns(t *testing.T) {
	d := sample.Dice(2106)
	type run struct {
		c      api.Code
		input  []int
		limits api.Limits
		m      *r16.Machine
		fuel   int
	}
	for range 100 {
		var runs []*run
		for range 6 {
			r := &run{c: sample.DrawCode(&d), input: d.Input()}
			r.limits = drawLimits(&d, r.c)
			r.m = start(t, r.c, r.input, r.limits)
			twin := *r
			twin.m = start(t, r.c, r.input, r.limits)
			runs = append(runs, r, &twin)
		}
		for range 200 {
			r := runs[d.Below(len(runs))]
			fuel := d.Below(9)
			r.m.Run(fuel)
			r.fuel += fuel
		}
		for _, r := range runs {
			if is, want := r.m.Outcome(), oracleRun(r.c, r.input, r.limits, r.fuel, api.MaxEvents); told(is) != told(want) {
				t.Fatalf("%s, input %v, %+v, %d steps:\n%s, want\n%s", sample.TellCode(r.c), r.input, r.limits, r.fuel, told(is), told(want))
			}
		}
	}
}

// TestP2102TurnedAgainstOracle takes code that is right, with one thing turned in it, or two.
func TestP2102TurnedAgainstOracle(t *testing.T) {
	d := sample.Dice(2012)
	often := map[bool]int{}
	for i := range 100000 {
		c := sample.DrawCode(&d)
		if e := r16.Check(c); e != api.OK || !oracleCheck(c) {
			t.Fatalf("%v of what is right: %s", e, sample.TellCode(c))
		}
		for range 1 + i%2 {
			turnOne(&d, &c)
		}
		want := oracleCheck(c)
		if is := r16.Check(c); is != wantIf(want) {
			t.Fatalf("%v, want %v of %+v", is, wantIf(want), c)
		}
		often[want]++
	}
	if often[true] < 5000 || often[false] < 5000 {
		t.Errorf("too few: %v", often)
	}
	t.Log(often)
}

func turnOne(d *sample.Dice, c *api.Code) {
	number := func(old int) int {
		return d.OneOf(old-1, old+1, -1, 0, 1, 2, 5, 6, 15, 16, api.MaxStack, api.MaxStack+1, math.MaxInt, math.MinInt)
	}
	if len(c.Funcs) == 0 || len(c.Ins) == 0 {
		return
	}
	f := &c.Funcs[d.Below(len(c.Funcs))]
	at := d.Below(len(c.Ins))
	x := &c.Ins[at]
	switch d.Below(16) {
	case 0:
		c.Main = number(c.Main)
	case 1:
		f.Frame = number(f.Frame)
	case 2:
		f.First = number(f.First)
	case 3:
		f.Count = number(f.Count)
	case 4:
		f.Params = number(f.Params)
	case 5:
		f.Name = []string{"", "x", "a", "b", "for", "9"}[d.Below(6)]
	case 6:
		c.Ins = slices.Delete(c.Ins, at, at+1)
	case 7:
		c.Ins = slices.Insert(c.Ins, at, *x)
	case 8:
		c.Funcs = slices.Delete(c.Funcs, len(c.Funcs)-1, len(c.Funcs))
	case 9:
		x.Op = d.Below(40)
	case 10:
		x.A = number(x.A)
	case 11:
		x.B = number(x.B)
	case 12:
		x.C = number(x.C)
	case 13, 14:
		x.N = number(x.N)
	case 15: // the last instruction of one goes to the next one
		if i := d.Below(len(c.Funcs)); i+1 < len(c.Funcs) {
			c.Funcs[i].Count--
			c.Funcs[i+1].First--
			c.Funcs[i+1].Count++
		}
	}
}
