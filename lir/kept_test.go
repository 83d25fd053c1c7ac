package lir_test

import (
	"slices"
	"strings"
	"sync"
	"testing"

	"quern/api"
	"quern/lir"
	"quern/sample"
)

// busy has all that a list may be of; some lists are empty.
const busy = `f(r0, r5) int regs 9
	0: r1 const 0; r2 eq r0 r1; branch r2 1 2
	1: r3 input; return r3
	2: r1 const 1; r0 sub r0 r1; r4 not r5; r3 call f r0 r4; r3 add r3 r0; printbool r5; return r3
	main()
	0: r0 const 0; r1 const 1; r2 const 4; r3 alloc r2; r4 move r0; jump 1
	1: r5 call f r4 r1; store r3 r4 r5; r0 add r0 r5; r4 add r4 r1; r6 lt r4 r2; branch r6 1 2
	2: r4 sub r4 r1; r5 load r3 r4; print r5; print r0; r7 len r3; trapbound 2 r4 r7; call g; return
	g()
	0: return`

func programs() []api.LIR {
	list := []api.LIR{sample.LIR(busy), sample.LIR(first), sample.LIR(second), sample.LIR("main()\n0: return")}
	for _, x := range wrongs() {
		list = append(list, x.program)
	}
	d := sample.Dice(1407)
	for range 100 {
		list = append(list, sample.DrawLIR(&d))
	}
	return list
}

func TestP1407NotChanged(t *testing.T) {
	for _, l := range programs() {
		l = sample.SpacedLIR(l)
		input := append([]int{3, 1, 4, 1, 5}, 8, 9)[:5]
		before := sample.ShapeLIR(l)
		lir.Check(l)
		m, err := lir.New(l, input)
		if err == api.OK {
			m.Run(1000)
		}
		if sample.ShapeLIR(l) != before || !slices.Equal(input[:7], []int{3, 1, 4, 1, 5, 8, 9}) {
			t.Fatalf("%v: what was handed in has changed:\n%s", err, sample.TellLIR(l))
		}
	}
}

func TestP1407NotKept(t *testing.T) {
	input := []int{3, 1, 4, 1, 5}
	want := told(oracleRun(sample.LIR(busy), input, 1000, 1000))
	if !strings.Contains(want, "exit") {
		t.Fatalf("the oracle: %s", want)
	}
	for spoilt := range 130 {
		l := sample.SpacedLIR(sample.LIR(busy))
		given := append(slices.Clone(input), 8, 9)[:len(input)]
		m := start(t, l, given)
		m.Run(spoilt)
		sample.SpoilLIR(l)
		for i := range given[:cap(given)] {
			given[:cap(given)][i] = -1
		}
		if o, _ := m.Run(1000); told(o) != want {
			t.Fatalf("what was handed in, written over at the step %d: %s, want %s", spoilt, told(o), want)
		}
	}
}

func TestP1407AnswersAreNewMemory(t *testing.T) {
	input := []int{3, 1, 4, 1, 5}
	m, twin := start(t, sample.LIR(busy), input), start(t, sample.LIR(busy), input)
	for {
		a, b := m.Outcome(), m.Outcome()
		c, _ := m.Run(0)
		want := told(a)
		grown := append(b.Events, api.Event{Kind: 8, Value: 8}, api.Event{Kind: 8, Value: 8})
		for _, o := range []api.Outcome{a, c} {
			all := o.Events[:cap(o.Events)]
			for i := range all {
				all[i] = api.Event{Kind: 9, Value: 9}
			}
		}
		if told(b) != want || told(m.Outcome()) != want || told(twin.Outcome()) != want || grown[len(b.Events)].Kind != 8 {
			t.Fatalf("an outcome that was written over is to be seen: %s, want %s", told(b), want)
		}
		made := m.Step()
		if made != twin.Step() {
			t.Fatal("of two runs one goes on")
		}
		if !made {
			break
		}
	}
	if o := m.Outcome(); o.End != api.Exit || len(o.Events) != 8 {
		t.Errorf("at the end: %s", told(o))
	}
	for range 3 { // and behind the end
		o := m.Outcome()
		want := told(o)
		clear(o.Events)
		if told(m.Outcome()) != want {
			t.Error("an outcome behind the end that was written over is to be seen")
		}
	}
}

// TestP1407TwoRuns: heaps, inputs and registers are each run's own.
func TestP1407TwoRuns(t *testing.T) {
	l := sample.LIR(busy)
	inputs := [][]int{{3, 1, 4, 1, 5}, {10, 20, 30, 40}, {1}, nil}
	var runs []*lir.Machine
	for _, input := range inputs {
		runs = append(runs, start(t, l, input))
	}
	for steps := range 200 {
		for i, m := range runs {
			if is, want := told(m.Outcome()), told(oracleRun(l, inputs[i], steps, 1000)); is != want {
				t.Fatalf("the run %d at %d steps: %s, want %s", i, steps, is, want)
			}
			m.Step()
		}
	}
}

// TestP1407ManyAtOnce runs one program many times, several at once.
func TestP1407ManyAtOnce(t *testing.T) {
	l, input := sample.LIR(busy), []int{3, 1, 4, 1, 5}
	want := told(oracleRun(l, input, 1000, 1000))
	is := make([]string, 16)
	var all sync.WaitGroup
	for i := range is {
		all.Go(func() {
			if m, err := lir.New(l, input); err == api.OK && lir.Check(l) == api.OK {
				o, _ := m.Run(1000)
				is[i] = told(o)
			}
		})
	}
	all.Wait()
	for _, one := range is {
		if one != want {
			t.Fatalf("%s, want %s", one, want)
		}
	}
}
