package r16_test

import (
	"slices"
	"strings"
	"sync"
	"testing"

	"quern/api"
	"quern/r16"
	"quern/sample"
)

// busy has calls, words of frames, blocks and events, and ends.
const busy = `main() frame 4
	0: ldi r0 4; alloc r1 r0; sts r1 2; ldi r2 0
	4: sts r2 3; mov r0 r2; call f; lds r1 2; lds r2 3; stx r0 r1 r2; outi r0; ldi r3 1; add r2 r2 r3; len r4 r1; lt r5 r2 r4; bnz r5 4
	16: sub r2 r2 r3; ldx r5 r1 r2; outi r5; trapu r2 r4 2; call g; ret
	f(1) frame 3
	22: bnz r0 25; inp r0; ret; sts r0 2; ldi r3 1; sub r0 r0 r3; call f; lds r3 2; add r0 r0 r3; ret
	g() frame 2
	32: eq r6 r6 r6; outb r6; ret`

var busyLimits = api.Limits{Stack: 30, Heap: 30}

var busyInput = []int{3, 1, 4, 1, 5}

func codes() []api.Code {
	list := []api.Code{sample.Code(busy), sample.Code(exampleP), sample.Code(exampleQ), sample.Code("main()\n0: ret"), {}}
	for _, turn := range []func(c *api.Code){
		func(c *api.Code) { c.Main = 1 },
		func(c *api.Code) { c.Funcs[0].Name = "for" },
		func(c *api.Code) { c.Funcs[0].Name = "g" },
		func(c *api.Code) { c.Funcs[2].Frame = 1 },
		func(c *api.Code) { c.Funcs[1].Count = 9 },
		func(c *api.Code) { c.Ins[34].Op = 99 },
		func(c *api.Code) { c.Ins[34] = api.Ins{Op: api.RJmp} },
	} {
		c := sample.Code(busy)
		turn(&c)
		list = append(list, c)
	}
	d := sample.Dice(2106)
	for range 200 {
		list = append(list, sample.DrawCode(&d))
	}
	return list
}

func TestP2106NotChanged(t *testing.T) {
	for _, c := range codes() {
		c = sample.SpacedCode(c)
		for _, limits := range []api.Limits{busyLimits, wide, {}, {Stack: -1}} {
			input := append(slices.Clone(busyInput), 8, 9)[:5]
			before := sample.ShapeCode(c)
			r16.Check(c)
			m, err := r16.New(c, input, limits)
			if err == api.OK {
				m.Run(1000)
			}
			if sample.ShapeCode(c) != before || !slices.Equal(input[:7], []int{3, 1, 4, 1, 5, 8, 9}) {
				t.Fatalf("%v: what was handed in has changed", err)
			}
		}
	}
}

func TestP2106NotKept(t *testing.T) {
	want := oracleRun(sample.Code(busy), busyInput, busyLimits, 1000, 1000)
	if want.End != api.Exit || want.Steps < 100 || len(want.Events) != 6 {
		t.Fatalf("the oracle: %s", told(want))
	}
	for spoilt := range want.Steps + 2 {
		c := sample.SpacedCode(sample.Code(busy))
		given := append(slices.Clone(busyInput), 8, 9)[:len(busyInput)]
		m := start(t, c, given, busyLimits)
		m.Run(spoilt)
		sample.SpoilCode(c)
		for i := range given[:cap(given)] {
			given[:cap(given)][i] = -1
		}
		if o, _ := m.Run(1000); told(o) != told(want) {
			t.Fatalf("what was handed in, written over at the step %d: %s, want %s", spoilt, told(o), told(want))
		}
	}
}

// TestP2106SameMemory: a run begins, other code is written into the memory of its code and its input, and a run of that begins; both go in turns.
func TestP2106SameMemory(t *testing.T) {
	texts := []string{
		"main() frame 3\n0: inp r0; sts r0 2; call f; lds r1 2; outi r1; outi r0; ret\nf(1) frame 5\n7: sts r0 3; add r0 r0 r0; lds r2 3; outi r2; ret",
		"main() frame 4\n0: inp r5; call g; sts r5 3; lds r0 3; inp r6; outi r6; outi r0; ret\ng(2) frame 2\n8: ldi r7 3; mul r5 r5 r7; outb r9; ret",
	}
	inputs := [][]int{{2, 9}, {5, 6}}
	for at := range 14 {
		for first := range texts {
			one, other := sample.Code(texts[first]), sample.Code(texts[1-first])
			c, given := sample.SpacedCode(one), slices.Clone(inputs[first])
			m := start(t, c, given, busyLimits)
			m.Run(at)
			copy(c.Ins, other.Ins)
			copy(c.Funcs, other.Funcs)
			copy(given, inputs[1-first])
			n := start(t, c, given, busyLimits)
			if sample.TellCode(c) != sample.TellCode(other) {
				t.Fatal("the other code was not written whole")
			}
			for steps := range 20 {
				x, y := oracleRun(one, inputs[first], busyLimits, at+steps, 100), oracleRun(other, inputs[1-first], busyLimits, steps, 100)
				if told(m.Outcome()) != told(x) || told(n.Outcome()) != told(y) {
					t.Fatalf("%d steps on: %s and %s, want %s and %s", steps, told(m.Outcome()), told(n.Outcome()), told(x), told(y))
				}
				m.Step()
				n.Step()
			}
			if m.Outcome().End != api.Exit || n.Outcome().End != api.Exit {
				t.Fatal("not at the end")
			}
		}
	}
}

func TestP2106AnswersAreNewMemory(t *testing.T) {
	m, twin := start(t, sample.Code(busy), busyInput, busyLimits), start(t, sample.Code(busy), busyInput, busyLimits)
	for {
		a, b := m.Outcome(), m.Outcome()
		c, _ := m.Run(0)
		want := told(a)
		grown := append(b.Events, api.Event{Kind: 8, Value: 8}, api.Event{Kind: 8, Value: 8})
		for _, o := range []api.Outcome{a, c} {
			all := o.Events[:cap(o.Events)]
			for i := range all {
				all[i] = api.Event{Kind: 9, Value: 9}
			}
		}
		if told(b) != want || told(m.Outcome()) != want || told(twin.Outcome()) != want || grown[len(b.Events)].Kind != 8 {
			t.Fatalf("an outcome that was written over is to be seen: %s, want %s", told(b), want)
		}
		made := m.Step()
		if made != twin.Step() {
			t.Fatal("of two runs one goes on")
		}
		if !made {
			break
		}
	}
	if o := m.Outcome(); o.End != api.Exit || len(o.Events) != 6 {
		t.Errorf("at the end: %s", told(o))
	}
	for range 3 { // and behind the end
		o := m.Outcome()
		want := told(o)
		clear(o.Events)
		if told(m.Outcome()) != want {
			t.Error("an outcome behind the end that was written over is to be seen")
		}
	}
}

// TestP2106InTurns: registers, stacks, heaps and inputs are each run's own.
func TestP2106InTurns(t *testing.T) {
	c := sample.Code(busy)
	inputs := [][]int{{3, 1, 4, 1, 5}, {10, 20, 30, 40}, {1}, nil}
	limits := []api.Limits{busyLimits, wide, {Stack: 12, Heap: 5}, {Stack: 4}, {Stack: 3}}
	type run struct {
		m      *r16.Machine
		input  []int
		limits api.Limits
	}
	var runs []run
	for _, input := range inputs {
		for _, l := range limits {
			runs = append(runs, run{start(t, c, input, l), input, l})
		}
	}
	ends := map[string]int{}
	for steps := range 200 {
		for _, r := range runs {
			want := oracleRun(c, r.input, r.limits, steps, 1000)
			if is := told(r.m.Outcome()); is != told(want) {
				t.Fatalf("the run of %v, %+v, at %d steps: %s, want %s", r.input, r.limits, steps, is, told(want))
			}
			r.m.Step()
			ends[strings.Fields(sample.Ending(want))[0]]++
		}
	}
	if ends["exit"] == 0 || ends["panic"] == 0 {
		t.Errorf("not all ends: %v", ends)
	}
}

// TestP2106ManyAtOnce runs one code many times, several at once.
func TestP2106ManyAtOnce(t *testing.T) {
	c := sample.Code(busy)
	want := told(oracleRun(c, busyInput, busyLimits, 1000, 1000))
	is := make([]string, 16)
	var all sync.WaitGroup
	for i := range is {
		all.Go(func() {
			if m, err := r16.New(c, busyInput, busyLimits); err == api.OK && r16.Check(c) == api.OK {
				o, _ := m.Run(1000)
				is[i] = told(o)
			}
		})
	}
	all.Wait()
	for _, one := range is {
		if one != want {
			t.Fatalf("%s, want %s", one, want)
		}
	}
}
