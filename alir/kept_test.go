package alir_test

import (
	"slices"
	"strings"
	"sync"
	"testing"

	"quern/alir"
	"quern/api"
	"quern/sample"
)

// busy has all that a list may be of; some lists are empty.
const busy = `f(r0, s2) int slots 9
	0: r1 const 0; s3 eq r0 r1; branch s3 1 2
	1: r3 input; return r3
	2: r1 const 1; r0 sub r0 r1; r4 not s2; r3 call f r0 r4 save 0 5; r3 add r3 r0; printbool s2; return r3
	main()
	0: s0 const 0; s1 const 1; r2 const 4; r3 alloc r2; s4 move s0; jump 1
	1: r5 call f s4 s1 save 2 3; store r3 s4 r5; s0 add s0 r5; s4 add s4 s1; r6 lt s4 r2; branch r6 1 2
	2: s4 sub s4 s1; r5 load r3 s4; print r5; print s0; r7 len r3; trapbound 2 s4 r7; call g; return
	g()
	0: return`

func programs() []api.ALIR {
	list := []api.ALIR{sample.ALIR(busy), sample.ALIR(example), sample.ALIR("main()\n0: return"), {}}
	for _, turn := range []func(a *api.ALIR){
		func(a *api.ALIR) { a.Main = 0 },
		func(a *api.ALIR) { a.Funcs[0].Name = "for" },
		func(a *api.ALIR) { a.Funcs[0].Slots = 2 },
		func(a *api.ALIR) { a.Funcs[1].Blocks[1].Body[0].Saves[1] = 2 },
		func(a *api.ALIR) { a.Funcs[1].Blocks[1].Body[1].Args[1] = api.Loc{} },
		func(a *api.ALIR) { a.Funcs[1].Blocks[2].Term.To = []int{9, 9, 9} },
	} {
		a := sample.ALIR(busy)
		turn(&a)
		list = append(list, a)
	}
	d := sample.Dice(1905)
	for range 100 {
		list = append(list, sample.DrawALIR(&d))
	}
	return list
}

func TestP1905NotChanged(t *testing.T) {
	for _, a := range programs() {
		a = sample.SpacedALIR(a)
		input := append([]int{3, 1, 4, 1, 5}, 8, 9)[:5]
		before := sample.ShapeALIR(a)
		alir.Check(a)
		m, err := alir.New(a, input)
		if err == api.OK {
			m.Run(1000)
		}
		if sample.ShapeALIR(a) != before || !slices.Equal(input[:7], []int{3, 1, 4, 1, 5, 8, 9}) {
			t.Fatalf("%v: what was handed in has changed", err)
		}
	}
}

func TestP1905NotKept(t *testing.T) {
	input := []int{3, 1, 4, 1, 5}
	want := told(oracleRun(sample.ALIR(busy), input, 1000, 1000))
	if !strings.Contains(want, "exit") {
		t.Fatalf("the oracle: %s", want)
	}
	for spoilt := range 130 {
		a := sample.SpacedALIR(sample.ALIR(busy))
		given := append(slices.Clone(input), 8, 9)[:len(input)]
		m := start(t, a, given)
		m.Run(spoilt)
		sample.SpoilALIR(a)
		for i := range given[:cap(given)] {
			given[:cap(given)][i] = -1
		}
		if o, _ := m.Run(1000); told(o) != want {
			t.Fatalf("what was handed in, written over at the step %d: %s, want %s", spoilt, told(o), want)
		}
	}
}

// overwrite writes all lists of one program into those of another one of the same lengths.
func overwrite(to, from api.ALIR) {
	for i, f := range from.Funcs {
		g := &to.Funcs[i]
		g.Name, g.Result, g.Slots = f.Name, f.Result, f.Slots
		copy(g.Params, f.Params)
		for b, block := range f.Blocks {
			c := &g.Blocks[b]
			c.Term.Kind, c.Term.Value = block.Term.Kind, block.Term.Value
			copy(c.Term.To, block.Term.To)
			for k, x := range block.Body {
				y := &c.Body[k]
				y.Op, y.Imm, y.Dst = x.Op, x.Imm, x.Dst
				copy(y.Args, x.Args)
				copy(y.Saves, x.Saves)
			}
		}
	}
}

// TestP1905SameMemory: a run begins, another program is written into the memory of its program, and a run of that begins; both go in turns.
func TestP1905SameMemory(t *testing.T) {
	texts := []string{
		`f(r0, s0) int
		0: r1 add r0 s0; print r1; branch r1 1 2
		1: r2 call g r1 save 1; s1 add r1 r2; return s1
		2: return r1
		main()
		0: r0 input; s0 const 5; r1 call f r0 s0 save 0; print r0; print r1; return
		g(r0) int
		0: return r0`,
		`g(s2, r5) int slots 3
		0: r6 mul s2 r5; print s2; branch r5 2 1
		1: r3 call main2 s2 save 5; s0 sub r5 r3; return s0
		2: return r6
		main()
		0: s0 input; r4 const 3; s1 call g s0 r4 save 4; print r4; print s1; return
		main2(s0) int
		0: return s0`,
	}
	input := []int{2}
	for at := range 12 {
		for first := range texts {
			one, other := sample.ALIR(texts[first]), sample.ALIR(texts[1-first])
			a := sample.SpacedALIR(one)
			m := start(t, a, input)
			m.Run(at)
			overwrite(a, other)
			n := start(t, a, input)
			if sample.TellALIR(a) != sample.TellALIR(other) {
				t.Fatal("the other program was not written whole")
			}
			for steps := range 20 {
				x, y := oracleRun(one, input, at+steps, 100), oracleRun(other, input, steps, 100)
				if told(m.Outcome()) != told(x) || told(n.Outcome()) != told(y) {
					t.Fatalf("%d steps on: %s and %s, want %s and %s", steps, told(m.Outcome()), told(n.Outcome()), told(x), told(y))
				}
				m.Step()
				n.Step()
			}
			if m.Outcome().End != api.Exit || n.Outcome().End != api.Exit {
				t.Fatal("not at the end")
			}
		}
	}
}

func TestP1905AnswersAreNewMemory(t *testing.T) {
	input := []int{3, 1, 4, 1, 5}
	m, twin := start(t, sample.ALIR(busy), input), start(t, sample.ALIR(busy), input)
	for {
		a, b := m.Outcome(), m.Outcome()
		c, _ := m.Run(0)
		want := told(a)
		grown := append(b.Events, api.Event{Kind: 8, Value: 8}, api.Event{Kind: 8, Value: 8})
		for _, o := range []api.Outcome{a, c} {
			all := o.Events[:cap(o.Events)]
			for i := range all {
				all[i] = api.Event{Kind: 9, Value: 9}
			}
		}
		if told(b) != want || told(m.Outcome()) != want || told(twin.Outcome()) != want || grown[len(b.Events)].Kind != 8 {
			t.Fatalf("an outcome that was written over is to be seen: %s, want %s", told(b), want)
		}
		made := m.Step()
		if made != twin.Step() {
			t.Fatal("of two runs one goes on")
		}
		if !made {
			break
		}
	}
	if o := m.Outcome(); o.End != api.Exit || len(o.Events) != 8 {
		t.Errorf("at the end: %s", told(o))
	}
	for range 3 { // and behind the end
		o := m.Outcome()
		want := told(o)
		clear(o.Events)
		if told(m.Outcome()) != want {
			t.Error("an outcome behind the end that was written over is to be seen")
		}
	}
}

// TestP1905TwoRuns: heaps, inputs, registers and slots are each run's own.
func TestP1905TwoRuns(t *testing.T) {
	a := sample.ALIR(busy)
	inputs := [][]int{{3, 1, 4, 1, 5}, {10, 20, 30, 40}, {1}, nil}
	var runs []*alir.Machine
	for _, input := range inputs {
		runs = append(runs, start(t, a, input))
	}
	for steps := range 200 {
		for i, m := range runs {
			if is, want := told(m.Outcome()), told(oracleRun(a, inputs[i], steps, 1000)); is != want {
				t.Fatalf("the run %d at %d steps: %s, want %s", i, steps, is, want)
			}
			m.Step()
		}
	}
}

// TestP1905ManyAtOnce runs one program many times, several at once.
func TestP1905ManyAtOnce(t *testing.T) {
	a, input := sample.ALIR(busy), []int{3, 1, 4, 1, 5}
	want := told(oracleRun(a, input, 1000, 1000))
	is := make([]string, 16)
	var all sync.WaitGroup
	for i := range is {
		all.Go(func() {
			if m, err := alir.New(a, input); err == api.OK && alir.Check(a) == api.OK {
				o, _ := m.Run(1000)
				is[i] = told(o)
			}
		})
	}
	all.Wait()
	for _, one := range is {
		if one != want {
			t.Fatalf("%s, want %s", one, want)
		}
	}
}
