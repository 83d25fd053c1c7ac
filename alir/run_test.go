package alir_test

import (
	"math"
	"slices"
	"strconv"
	"strings"
	"testing"

	"quern/alir"
	"quern/api"
	"quern/sample"
)

func tooLong() []int { return make([]int, api.MaxInput+1) }

func TestP1904Errors(t *testing.T) {
	long := tooLong()
	for _, a := range []api.ALIR{{}, {Main: -1}, {Funcs: []api.AFunc{{}}}, {Funcs: []api.AFunc{{Name: "main"}}}, {Funcs: []api.AFunc{{Name: "main", Blocks: []api.ABlock{{}}}}}} {
		for _, input := range [][]int{nil, {1}, long[:api.MaxInput], long} {
			if m, err := alir.New(a, input); m != nil || err != api.ErrALIRForm {
				t.Errorf("New of what is no ALIR, %d numbers: %v", len(input), err)
			}
		}
	}
	good := sample.ALIR(example)
	if m, err := alir.New(good, long); m != nil || err != api.ErrInput {
		t.Errorf("New with MaxInput + 1 numbers: %v", err)
	}
	if m, err := alir.New(good, long[:api.MaxInput]); m == nil || err != api.OK {
		t.Errorf("New with MaxInput numbers: %v", err)
	}
}

func TestP1904Beginning(t *testing.T) {
	for _, text := range []string{
		example,
		"main()\n0: return",
		"main()\n0: jump 0",
		"main() slots 262144\n0: s262143 const 1; panic s262143",
		"f()\n0: return\nmain()\n0: r0 const 5; r1 alloc r0; call f; print r0; return",
	} {
		m := start(t, sample.ALIR(text), []int{1, 2})
		for range 2 {
			if o := m.Outcome(); told(o) != "running 0 0 1" || len(o.Events) != 0 {
				t.Errorf("at the beginning of %s: %s", text, told(o))
			}
		}
		if o, err := m.Run(0); err != api.OK || told(o) != "running 0 0 1" {
			t.Errorf("Run(0) of %s: %s %v", text, told(o), err)
		}
	}
	// Main may be any function, whatever it is called.
	a := sample.ALIR("f()\n0: r0 const 1; print r0; return\nmain()\n0: s0 const 2; print s0; return\ng()\n0: r7 const 3; print r7; return")
	for main := range 3 {
		a.Main = main
		if o, _ := start(t, a, nil).Run(9); told(o) != strconv.Itoa(main+1)+" exit 3 0 1" {
			t.Errorf("Main %d: %s", main, told(o))
		}
	}
}

func TestP1904AllOfTheInput(t *testing.T) {
	input := make([]int, api.MaxInput)
	for i := range input {
		input[i] = i*i - 7
	}
	m := start(t, sample.ALIR("main()\n0: s0 input; print s0; jump 0"), input)
	o, _ := m.Run(api.MaxFuel)
	if o.End != api.Panic || o.Kind != api.PanicInput || o.Value != 0 || o.Steps != 3*api.MaxInput+1 || len(o.Events) != api.MaxInput {
		t.Fatalf("%d events, End %d Kind %d, Steps %d", len(o.Events), o.End, o.Kind, o.Steps)
	}
	for i, e := range o.Events {
		if e != (api.Event{Kind: api.EventInt, Value: i*i - 7}) {
			t.Fatalf("the event %d: %+v", i, e)
		}
	}
}

const loop = "main()\n0: r0 const 0; s1 const 1; r2 const 3; jump 1\n1: print r0; r0 add r0 s1; s3 lt r0 r2; branch s3 1 2\n2: return"

func TestP1904Fuel(t *testing.T) {
	m := start(t, sample.ALIR(loop), nil)
	m.Run(7)
	for _, fuel := range []int{-1, -2, -1 << 32, math.MinInt, api.MaxFuel + 1, api.MaxFuel + 2, 1 << 62, math.MaxInt} {
		o, err := m.Run(fuel)
		if err != api.ErrFuel || told(o) != "running 0 0 0" || o.Events != nil {
			t.Errorf("Run(%d): %s %v", fuel, told(o), err)
		}
		if is := told(m.Outcome()); is != "0 running 7 0 1" {
			t.Errorf("behind Run(%d): %s", fuel, is)
		}
	}
	if o, err := m.Run(api.MaxFuel); err != api.OK || told(o) != "0 1 2 exit 17 0 1" {
		t.Errorf("Run(MaxFuel): %s %v", told(o), err)
	}
	if o, err := m.Run(-1); err != api.ErrFuel || told(o) != "running 0 0 0" {
		t.Errorf("Run(-1) behind the end: %s %v", told(o), err)
	}
	holdRows(t, []row{{loop, nil, "0 1 2 exit 17 0 1"}})
}

func TestP1904BehindTheEnd(t *testing.T) {
	for _, r := range inMain([]row{
		{"0: r0 const 1; print r0; return", nil, "1 exit 3 0 1"},
		{"0: s0 const 1; print s0; panic s0", nil, "1 panic user 1 3 0 1"},
		{"0: print s0; trapneg 2 s0; print r0; return", nil, "-1 panic index 2 0 1"},
		{"0: r0 const 0; print r0; r0 div r0 r0; print r0; return", nil, "0 stuck zero 3 0 1"},
		{"0: r0 const 2; print r0; printbool r0; print r0; return", nil, "2 stuck bool 3 0 1"},
		{"0: r0 const 0; s0 alloc r0; r0 input; print r0; return", nil, "panic input 3 1 1"},
		{"0: s0 const 2; r1 alloc s0; s0 const 4611686018427387904; r1 alloc s0; print s0; return", nil, "panic heap 4 3 1"},
	}) {
		if no := sample.HoldEnd(start(t, sample.ALIR(r.text), r.input), r.want); no != "" {
			t.Errorf("%s: %s", r.text, no)
		}
	}
}

// TestP1904Rests goes to MaxEvents events; what then follows are steps that tell none, up to one that would, or to the end.
func TestP1904Rests(t *testing.T) {
	const each = 16 // events of a turn
	turns := "0: r0 const 0; r1 const 1; s2 const " + strconv.Itoa(api.MaxEvents/each) + "; s9 const 2; jump 1\n1: " +
		strings.Repeat("print r0; ", each) + "r0 add r0 r1; r3 lt r0 s2; branch r3 1 2\n2: "
	const all = 5 + (each+3)*(api.MaxEvents/each) // steps, up to block 2
	for _, x := range []struct {
		text  string
		steps int
		end   string
		rest  string // its words and its depth
	}{
		{"0: r0 const 0; jump 1\n1: print r0; jump 1", 2 + 2*api.MaxEvents, "running", " 0 1"},
		{"0: s0 const 1; jump 1\n1: printbool s0; s0 not s0; jump 1", 2 + 3*api.MaxEvents, "running", " 0 1"},
		{turns + "print s5; return", all, "running", " 0 1"},
		{turns + "printbool r1; return", all, "running", " 0 1"},
		{turns + "r4 const 4; r5 const 5; print r5; return", all + 2, "running", " 0 1"},
		{turns + "r4 const 4; r5 alloc r4; call more; return\nmore()\n0: r0 const 1; r0 not r0; printbool r0; return", all + 5, "running", " 5 2"},
		{turns + "call more save 0; r0 div r0 r0; r1 rem r0 r4; print r0; return\nmore()\n0: return", all + 4, "running", " 0 2"},
		{turns + "r4 const 4; return", all + 2, "exit", " 0 1"},
		{turns + "panic s9", all + 1, "panic user 2", " 0 1"},
		// Panics and stuck steps of each kind.
		{turns + "trapneg 1 r0; r4 const 0; trapzero 3 r4; print r0; return", all + 3, "panic shift", " 0 1"},
		{turns + "trapneg 1 r4; print r0; return", all + 1, "panic divide", " 0 1"},
		{turns + "trapbound 2 r0 r0; print r0; return", all + 1, "panic index", " 0 1"},
		{turns + "r4 input; print r0; return", all + 1, "panic input", " 0 1"},
		{turns + "r4 const 4611686018427387904; r4 alloc r4; print r0; return", all + 2, "panic heap", " 0 1"},
		{turns + "s4 const 0; r4 div r0 s4; print r0; return", all + 2, "stuck zero", " 0 1"},
		{turns + "s4 const 0; r4 rem r0 s4; print r0; return", all + 2, "stuck zero", " 0 1"},
		{turns + "r4 shl r0 r4; print r0; return", all + 1, "stuck shift", " 0 1"},
		{turns + "r4 shr r0 s4; print r0; return", all + 1, "stuck shift", " 0 1"},
		{turns + "r4 not s9; print r0; return", all + 1, "stuck bool", " 0 1"},
		{turns + "r4 len s9; print r0; return", all + 1, "stuck block", " 0 1"},
		{turns + "r4 load s9 s9; print r0; return", all + 1, "stuck block", " 0 1"},
		{turns + "store s9 s9 s9; print r0; return", all + 1, "stuck block", " 0 1"},
		{turns + "s4 alloc s9; r4 load s4 s9; print r0; return", all + 2, "stuck element", " 3 1"},
		{turns + "r4 alloc r4; print r0; return", all + 1, "stuck block", " 0 1"},
		// A print that is stuck tells no event: it does not rest.
		{turns + "printbool s9; return", all + 1, "stuck bool", " 0 1"},
		{turns + "printbool r0; return", all + 1, "stuck bool", " 0 1"},
		{turns + "printbool r7; return", all + 1, "stuck bool", " 0 1"},
	} {
		m := start(t, sample.ALIR("main()\n"+x.text), nil)
		o, _ := m.Run(api.MaxFuel)
		want := x.end + " " + strconv.Itoa(x.steps) + x.rest
		events := o.Events
		o.Events = nil
		if len(events) != api.MaxEvents || told(o) != want {
			t.Errorf("%s: %d events, %s, want %s", x.text, len(events), told(o), want)
		}
		for range 3 {
			p, err := m.Run(1000)
			same := slices.Equal(p.Events, events)
			p.Events = nil
			if m.Step() || err != api.OK || told(p) != want || !same {
				t.Errorf("%s: where it rests, or behind its end, it goes on: %s", x.text, told(p))
			}
		}
	}
}

func TestP1904RestsStepByStep(t *testing.T) {
	a := sample.ALIR("main()\n0: r0 const 0; s1 const 1; jump 1\n1: print r0; r0 add r0 s1; jump 1")
	m := start(t, a, nil)
	made := 0
	for m.Step() {
		made++
	}
	o := m.Outcome()
	if made != 3+3*api.MaxEvents || o.Steps != made || o.End != api.Running || len(o.Events) != api.MaxEvents {
		t.Errorf("%d steps made, %d told, %d events, End %d", made, o.Steps, len(o.Events), o.End)
	}
	for i, e := range o.Events {
		if e != (api.Event{Kind: api.EventInt, Value: i}) {
			t.Fatalf("the event %d: %+v", i, e)
		}
	}
	m = start(t, a, nil)
	m.Run(made - 1)
	if !m.Step() || m.Step() || m.Step() {
		t.Error("the last step ahead of the rest, and two that are none")
	}
}

// TestP1904WordsAndDepth: both as they are behind each step; Depth does not fall.
func TestP1904WordsAndDepth(t *testing.T) {
	m := start(t, sample.ALIR(`main()
		0: s0 const 3; r1 alloc s0; call f s0; call g; call f s0; return
		f(r0)
		0: s1 alloc r0; call g; return
		g()
		0: r0 const 0; r1 alloc r0; return`), nil)
	words := []int{0, 0, 4, 4, 8, 8, 8, 9, 9, 9, 9, 9, 10, 10, 10, 14, 14, 14, 15, 15, 15, 15}
	depth := []int{1, 1, 1, 2, 2, 3, 3, 3, 3, 3, 3, 3, 3, 3, 3, 3, 3, 3, 3, 3, 3, 3}
	for i := range words {
		o := m.Outcome()
		if o.Steps != i || o.Words != words[i] || o.Depth != depth[i] {
			t.Errorf("behind %d steps: %s, want the words %d, the depth %d", i, told(o), words[i], depth[i])
		}
		m.Step()
	}
	if o := m.Outcome(); o.End != api.Exit || o.Steps != 21 {
		t.Errorf("at the end: %s", told(o))
	}
}
