package ssarun_test

import (
	"testing"

	"quern/api"
	"quern/sample"
	"quern/ssarun"
)

// TestDrawnAgainstOracle runs drawn programs at once, step by step, and in pieces.
func TestDrawnAgainstOracle(t *testing.T) {
	d := sample.Dice(20261116)
	often := map[string]int{}
	count := func(what string, is bool) {
		if is {
			often[what]++
		}
	}
	const fuel = 600
	for range 20000 {
		s, input := sample.DrawSSA(&d), d.Input()
		want := oracleRun(s, input, fuel, api.MaxEvents)
		m := start(t, s, input)
		d.Drive(m, fuel)
		if is := m.Outcome(); told(is) != told(want) {
			t.Fatalf("%+v, input %v:\n%s, want\n%s", s, input, told(is), told(want))
		}
		count(sample.Ending(api.Outcome{End: want.End, Kind: want.Kind}), true)
		count("steps", want.Steps > 50)
		count("depth", want.Depth > 2 && want.End == api.Exit)
		count("events", len(want.Events) > 10)
		count("words", want.Words > 100)
	}
	for _, kind := range []string{"running", "exit", "panic divide", "panic index", "panic shift", "panic make", "panic input", "panic user 0", "panic heap",
		"stuck block", "stuck element", "stuck zero", "stuck shift", "steps", "depth", "events", "words"} {
		if often[kind] < 20 {
			t.Errorf("only %d runs: %s", often[kind], kind)
		}
	}
	t.Log(often)
}

// TestDrawnAtEveryStep holds the outcome behind each step, and that an outcome is the same with just so much fuel.
func TestDrawnAtEveryStep(t *testing.T) {
	d := sample.Dice(77)
	for range 400 {
		s, input := sample.DrawSSA(&d), d.Input()
		m := start(t, s, input)
		for steps := range 80 {
			want := oracleRun(s, input, steps, api.MaxEvents)
			if is := m.Outcome(); told(is) != told(want) {
				t.Fatalf("%+v, input %v, %d steps:\n%s, want\n%s", s, input, steps, told(is), told(want))
			}
			if made := m.Step(); made != (want.End == api.Running) {
				t.Fatalf("%+v, input %v, %d steps: a step: %t", s, input, steps, made)
			}
		}
	}
}

// TestP1006DrawnInTurns lets many runs go in turns, each as if it were alone.
func TestP1006DrawnInTurns(t *testing.T) {
	d := sample.Dice(1006)
	type run struct {
		s     api.SSA
		input []int
		m     *ssarun.Machine
		fuel  int
	}
	for range 60 {
		var runs []*run
		for range 6 {
			r := &run{s: sample.DrawSSA(&d), input: d.Input()}
			r.m = start(t, r.s, r.input)
			twin := *r
			twin.m = start(t, r.s, r.input)
			runs = append(runs, r, &twin)
		}
		for range 200 {
			r := runs[d.Below(len(runs))]
			fuel := d.Below(9)
			r.m.Run(fuel)
			r.fuel += fuel
		}
		for _, r := range runs {
			if is, want := r.m.Outcome(), oracleRun(r.s, r.input, r.fuel, api.MaxEvents); told(is) != told(want) {
				t.Fatalf("%+v, input %v, %d steps:\n%s, want\n%s", r.s, r.input, r.fuel, told(is), told(want))
			}
		}
	}
}
