package r16_test

import (
	"math"
	"slices"
	"strconv"
	"strings"
	"testing"

	"quern/api"
	"quern/r16"
	"quern/sample"
)

func TestP2103Errors(t *testing.T) {
	wrong := []api.Limits{{Stack: -1}, {Stack: -1, Heap: api.MaxHeap}, {Stack: api.MaxStack + 1}, {Stack: 9, Heap: -1}, {Stack: 9, Heap: api.MaxHeap + 1}, {Heap: -1}, {Stack: -1, Heap: -1},
		{Stack: math.MinInt, Heap: 9}, {Stack: math.MaxInt, Heap: 9}, {Stack: 9, Heap: math.MinInt}, {Stack: 9, Heap: math.MaxInt}, {Stack: api.MaxStack + 1, Heap: api.MaxHeap + 1}, {Stack: 1<<41 + 3}}
	right := []api.Limits{{}, {Stack: 9}, {Heap: 9}, {Stack: api.MaxStack}, {Heap: api.MaxHeap}, wide, {Stack: api.MaxStack - 1, Heap: api.MaxHeap - 1}, {Stack: 1, Heap: 1}}
	bad := []api.Code{{}, {Main: -1}, {Funcs: []api.RFunc{{}}}, {Funcs: []api.RFunc{{Name: "main", Frame: 2}}}, {Ins: []api.Ins{{Op: api.RRet}}}, {Ins: []api.Ins{{}}, Funcs: []api.RFunc{{Name: "main", Frame: 2, Count: 1}}}}
	good := sample.Code(exampleP)
	for _, limits := range append(slices.Clone(wrong), right...) {
		for _, input := range [][]int{nil, {1}, tooLong[:api.MaxInput], tooLong} {
			for _, c := range bad {
				if m, err := r16.New(c, input, limits); m != nil || err != api.ErrCodeForm {
					t.Errorf("New of what is no code, %d numbers, %+v: %v", len(input), limits, err)
				}
			}
			want := api.OK
			switch {
			case len(input) > api.MaxInput:
				want = api.ErrInput
			case slices.Contains(wrong, limits):
				want = api.ErrLimits
			}
			if m, err := r16.New(good, input, limits); err != want || (m == nil) != (want != api.OK) {
				t.Errorf("New with %d numbers, %+v: %v, want %v", len(input), limits, err, want)
			}
		}
	}
}

func TestP2103Beginning(t *testing.T) {
	for _, text := range []string{
		exampleP, exampleQ, "main()\n0: ret", "main()\n0: jmp 0", "main() frame 1099511627776\n0: lds r1 1099511627775; ret",
		"f()\n0: ret\nmain()\n1: ldi r0 5; alloc r1 r0; call f; outi r0; ret",
	} {
		m := start(t, sample.Code(text), []int{1, 2}, wide)
		for range 2 {
			if o := m.Outcome(); told(o) != "running 0 0 1" || len(o.Events) != 0 {
				t.Errorf("at the beginning of %s: %s", text, told(o))
			}
		}
		if o, err := m.Run(0); err != api.OK || told(o) != "running 0 0 1" {
			t.Errorf("Run(0) of %s: %s %v", text, told(o), err)
		}
	}
	// Main may be any function, whatever it is called.
	c := sample.Code("f()\n0: ldi r0 1; outi r0; ret\nmain()\n3: ldi r15 2; outi r15; ret\ng()\n6: ldi r7 3; outi r7; ret")
	for main := range 3 {
		c.Main = main
		if o, _ := start(t, c, nil, wide).Run(9); told(o) != strconv.Itoa(main+1)+" exit 3 0 1" {
			t.Errorf("Main %d: %s", main, told(o))
		}
	}
}

func TestP2105AllOfTheInput(t *testing.T) {
	input := make([]int, api.MaxInput)
	for i := range input {
		input[i] = i*i - 7
	}
	o, _ := start(t, sample.Code("main()\n0: inp r3; outi r3; jmp 0"), input, wide).Run(api.MaxFuel)
	if o.End != api.Panic || o.Kind != api.PanicInput || o.Value != 0 || o.Steps != 3*api.MaxInput+1 || len(o.Events) != api.MaxInput {
		t.Fatalf("%d events, End %d Kind %d, Steps %d", len(o.Events), o.End, o.Kind, o.Steps)
	}
	for i, e := range o.Events {
		if e != (api.Event{Kind: api.EventInt, Value: i*i - 7}) {
			t.Fatalf("the event %d: %+v", i, e)
		}
	}
}

const loop = "main()\n0: ldi r1 1; ldi r2 3\n2: outi r0; add r0 r0 r1; lt r3 r0 r2; bnz r3 2; ret"

func TestP2105Fuel(t *testing.T) {
	m := start(t, sample.Code(loop), nil, wide)
	m.Run(5)
	for _, fuel := range []int{-1, -2, -1 << 32, math.MinInt, api.MaxFuel + 1, api.MaxFuel + 2, 1 << 62, math.MaxInt} {
		o, err := m.Run(fuel)
		if err != api.ErrFuel || told(o) != "running 0 0 0" || o.Events != nil {
			t.Errorf("Run(%d): %s %v", fuel, told(o), err)
		}
		if is := told(m.Outcome()); is != "0 running 5 0 1" {
			t.Errorf("behind Run(%d): %s", fuel, is)
		}
	}
	if o, err := m.Run(api.MaxFuel); err != api.OK || told(o) != "0 1 2 exit 15 0 1" {
		t.Errorf("Run(MaxFuel): %s %v", told(o), err)
	}
	if o, err := m.Run(-1); err != api.ErrFuel || told(o) != "running 0 0 0" {
		t.Errorf("Run(-1) behind the end: %s %v", told(o), err)
	}
	m = start(t, sample.Code(loop), nil, api.Limits{}) // it has ended at its beginning
	if o, err := m.Run(api.MaxFuel + 1); err != api.ErrFuel || told(o) != "running 0 0 0" {
		t.Errorf("Run(MaxFuel + 1) behind the end: %s %v", told(o), err)
	}
	if o, err := m.Run(api.MaxFuel); err != api.OK || told(o) != "panic stack 0 0 0" {
		t.Errorf("Run(MaxFuel) behind the end: %s %v", told(o), err)
	}
	holdRows(t, wide, []row{{loop, nil, "0 1 2 exit 15 0 1"}})
}

func TestP2105BehindTheEnd(t *testing.T) {
	for _, r := range []row{
		{"ldi r0 1; outi r0; ret", nil, "1 exit 3 0 1"},
		{"ldi r0 1; outi r0; trap r0 6", nil, "1 panic user 1 3 0 1"},
		{"ldi r0 1; outi r0; trap r0 2", nil, "1 panic index 3 0 1"},
		{"outi r0; trapz r0 2; outi r0; ret", nil, "0 panic index 2 0 1"},
		{"outi r0; div r0 r0 r0; outi r0; ret", nil, "0 stuck zero 2 0 1"},
		{"ldi r0 2; outi r0; outb r0; outi r0; ret", nil, "2 stuck bool 3 0 1"},
		{"alloc r1 r0; inp r0; outi r0; ret", nil, "panic input 2 1 1"},
		{"ldi r0 2; alloc r1 r0; ldi r0 7; alloc r1 r0; outi r0; ret", nil, "panic heap 4 3 1"},
		{"call main; outi r0; ret", nil, "panic stack 4 0 4"},
	} {
		m := start(t, sample.Code("main()\n0: "+r.text), r.input, api.Limits{Stack: 9, Heap: 10})
		if no := sample.HoldEnd(m, r.want); no != "" {
			t.Errorf("%s: %s", r.text, no)
		}
	}
}

// turns tells MaxEvents events; behind it, from the instruction 24 on, r8 is -1, r9 is 2, r1 is 1, r10 and on are 0.
const each = 16 // events of a turn

var turns = "0: ldi r0 0; ldi r1 1; ldi r2 " + strconv.Itoa(api.MaxEvents/each) + "; ldi r8 -1; ldi r9 2\n5: " +
	strings.Repeat("outi r0; ", each) + "add r0 r0 r1; lt r3 r0 r2; bnz r3 5\n24: "

// TestP2105Rests goes to MaxEvents events; what then follows are steps that tell none, up to one that would, or to the end.
func TestP2105Rests(t *testing.T) {
	const all = 5 + (each+3)*(api.MaxEvents/each) // steps, up to the instruction 24
	for _, x := range []struct {
		text  string
		steps int
		end   string
		rest  string // its words and its depth
	}{
		{"0: outi r0; jmp 0", 2 * api.MaxEvents, "running", " 0 1"},
		{"0: outb r0; not r0 r0; jmp 0", 3 * api.MaxEvents, "running", " 0 1"},
		{turns + "outi r5; ret", all, "running", " 0 1"},
		{turns + "outb r1; ret", all, "running", " 0 1"},
		{turns + "ldi r4 4; ldi r5 5; sts r5 2; lds r6 2; outi r5; ret", all + 4, "running", " 0 1"},
		{turns + "ldi r4 4; alloc r5 r4; call more; ret\nmore() frame 2\n28: ldi r0 1; not r0 r0; jmp 31; outb r0; ret", all + 6, "running", " 5 2"},
		{turns + "call more; div r0 r0 r0; rem r1 r10 r0; stx r1 r10 r1; outi r0; ret\nmore() frame 2\n30: ret", all + 5, "stuck block", " 0 2"},
		{turns + "ldi r4 4; ret", all + 2, "exit", " 0 1"},
		{turns + "ldi r4 1\n25: sub r9 r9 r4; bnz r9 25; ret", all + 6, "exit", " 0 1"},
		// Panics of each kind.
		{turns + "trap r9 6", all + 1, "panic user 2", " 0 1"},
		{turns + "trap r9 1", all + 1, "panic divide", " 0 1"},
		{turns + "trapn r0 1; trapz r10 3; outi r0; ret", all + 2, "panic shift", " 0 1"},
		{turns + "trapn r8 4; outi r0; ret", all + 1, "panic make", " 0 1"},
		{turns + "trapu r0 r0 2; outi r0; ret", all + 1, "panic index", " 0 1"},
		{turns + "inp r4; outi r0; ret", all + 1, "panic input", " 0 1"},
		{turns + "ldi r4 100; alloc r4 r4; outi r0; ret", all + 2, "panic heap", " 0 1"},
		{turns + "call more; outi r0; ret\nmore() frame 100\n27: ret", all + 1, "panic stack", " 0 1"},
		// Stuck steps of each kind.
		{turns + "div r4 r0 r10; outi r0; ret", all + 1, "stuck zero", " 0 1"},
		{turns + "rem r4 r0 r10; outi r0; ret", all + 1, "stuck zero", " 0 1"},
		{turns + "shl r4 r0 r8; outi r0; ret", all + 1, "stuck shift", " 0 1"},
		{turns + "shr r4 r0 r8; outi r0; ret", all + 1, "stuck shift", " 0 1"},
		{turns + "not r4 r9; outi r0; ret", all + 1, "stuck bool", " 0 1"},
		{turns + "len r4 r9; outi r0; ret", all + 1, "stuck block", " 0 1"},
		{turns + "ldx r4 r9 r9; outi r0; ret", all + 1, "stuck block", " 0 1"},
		{turns + "stx r9 r9 r9; outi r0; ret", all + 1, "stuck block", " 0 1"},
		{turns + "alloc r4 r9; ldx r5 r4 r9; outi r0; ret", all + 2, "stuck element", " 3 1"},
		{turns + "alloc r4 r8; outi r0; ret", all + 1, "stuck block", " 0 1"},
		// One that would tell a bool and is stuck tells no event: it does not rest.
		{turns + "outb r9; ret", all + 1, "stuck bool", " 0 1"},
		{turns + "outb r0; ret", all + 1, "stuck bool", " 0 1"},
		{turns + "outb r8; ret", all + 1, "stuck bool", " 0 1"},
	} {
		m := start(t, sample.Code("main() frame 3\n"+x.text), nil, api.Limits{Stack: 99, Heap: 99})
		o, _ := m.Run(api.MaxFuel)
		want := x.end + " " + strconv.Itoa(x.steps) + x.rest
		events := o.Events
		o.Events = nil
		if len(events) != api.MaxEvents || told(o) != want {
			t.Errorf("%s: %d events, %s, want %s", x.text, len(events), told(o), want)
		}
		for range 3 {
			p, err := m.Run(1000)
			same := slices.Equal(p.Events, events)
			p.Events = nil
			if m.Step() || err != api.OK || told(p) != want || !same {
				t.Errorf("%s: where it rests, or behind its end, it goes on: %s", x.text, told(p))
			}
		}
	}
}

func TestP2105RestsStepByStep(t *testing.T) {
	c := sample.Code("main()\n0: ldi r1 1\n1: outi r0; add r0 r0 r1; jmp 1")
	m := start(t, c, nil, wide)
	made := 0
	for m.Step() {
		made++
	}
	o := m.Outcome()
	if made != 1+3*api.MaxEvents || o.Steps != made || o.End != api.Running || len(o.Events) != api.MaxEvents {
		t.Errorf("%d steps made, %d told, %d events, End %d", made, o.Steps, len(o.Events), o.End)
	}
	for i, e := range o.Events {
		if e != (api.Event{Kind: api.EventInt, Value: i}) {
			t.Fatalf("the event %d: %+v", i, e)
		}
	}
	m = start(t, c, nil, wide)
	m.Run(made - 1)
	if !m.Step() || m.Step() || m.Step() {
		t.Error("the last step ahead of the rest, and two that are none")
	}
}

// TestP2105WordsAndDepth: both as they are behind each step; Depth does not fall.
func TestP2105WordsAndDepth(t *testing.T) {
	m := start(t, sample.Code(`main()
		0: ldi r0 3; alloc r1 r0; call f; call g; call f; ret
		f()
		6: alloc r2 r0; call g; ret
		g()
		9: alloc r3 r4; ret`), nil, wide)
	words := []int{0, 0, 4, 4, 8, 8, 9, 9, 9, 9, 10, 10, 10, 14, 14, 15, 15, 15, 15}
	depth := []int{1, 1, 1, 2, 2, 3, 3, 3, 3, 3, 3, 3, 3, 3, 3, 3, 3, 3, 3}
	for i := range words {
		o := m.Outcome()
		if o.Steps != i || o.Words != words[i] || o.Depth != depth[i] {
			t.Errorf("behind %d steps: %s, want the words %d, the depth %d", i, told(o), words[i], depth[i])
		}
		m.Step()
	}
	if o := m.Outcome(); o.End != api.Exit || o.Steps != 18 {
		t.Errorf("at the end: %s", told(o))
	}
}
