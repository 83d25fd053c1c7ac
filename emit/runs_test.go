package emit_test

import (
	"slices"
	"testing"

	"quern/alir"
	"quern/alloc"
	"quern/api"
	"quern/r16"
	"quern/sample"
)

// enough is as much stack and heap as there may be.
var enough = api.Limits{Stack: api.MaxStack, Heap: api.MaxHeap}

// most is how many instructions one of ALIR is, at most: a call, with all saved and the moves of what is called.
const most = 8 + 12 + 1 + 1 + 8 + 1 + 12

func startCode(t testing.TB, c api.Code, input []int) *r16.Machine {
	t.Helper()
	m, e := r16.New(c, input, enough)
	if e != api.OK {
		t.Fatalf("New: %v of\n%+v", e, c)
	}
	return m
}

// without is an outcome that has no steps: at the two levels they are not the same.
func without(o api.Outcome) api.Outcome {
	o.Steps = 0
	return o
}

// holdRuns holds the run of a program, up to so many steps, against that of its code, and tells the program's outcome.
func holdRuns(t testing.TB, a api.ALIR, c api.Code, input []int, fuel int) api.Outcome {
	t.Helper()
	m, e := alir.New(a, input)
	if e != api.OK {
		t.Fatalf("New: %v of\n%s", e, sample.TellALIR(a))
	}
	o, _ := m.Run(fuel)
	n := startCode(t, c, input)
	p, _ := n.Run(most * (o.Steps + 1))
	if p.End == api.Panic && p.Kind == api.PanicHeap { // it was not enough
		return o
	}
	fits := sample.Told(without(o)) == sample.Told(without(p))
	if o.End == api.Running {
		fits = len(p.Events) >= len(o.Events) && slices.Equal(p.Events[:len(o.Events)], o.Events)
	}
	if !fits {
		t.Fatalf("P2308: input %v:\n%s\nthe code:\n%s\nof\n%s\n%s", input, sample.Told(o), sample.Told(p), sample.TellALIR(a), sample.TellCode(c))
	}
	return o
}

// TestP2308Runs runs programs and their code, and tells what the code's run tells.
func TestP2308Runs(t *testing.T) {
	for _, x := range []struct {
		what, text string
		input      []int
		want       string
	}{
		{"chapter 19's, but for what a call does not save", "seven() int\n0: r0 const 7; return r0\nmain()\n0: r0 input; r1 call seven save 0; print r0; print r1; s0 move r1; call seven save 1; print r1; print s0; return", []int{3}, "3 7 7 7 exit 20 0 2"},
		{"a loop", "main()\n0: r0 input; r1 const 1; s0 const 0; jump 1\n1: s0 add s0 r0; r0 sub r0 r1; branch r0 1 2\n2: print s0; return", []int{4}, "10 exit 27 0 1"},
		{"Fibonacci's numbers, by calls", `fib(r0) int
			0: r1 const 2; r2 lt r0 r1; branch r2 1 2
			1: return r0
			2: r3 const 1; r4 sub r0 r3; s0 call fib r4 save 0 1; r6 sub r0 r1; r7 call fib r6; r0 add s0 r7; return r0
			main()
			0: s0 input; jump 1
			1: r1 call fib s0; print r1; r2 const 1; s0 sub s0 r2; branch s0 1 2
			2: return`, []int{7}, "13 8 5 3 2 1 1 exit 1258 0 8"},
		{"arguments that change places", `f(r2, s0, r0) int
			0: branch r2 1 2
			1: r3 const 1; r2 sub r2 r3; r0 call f r2 r0 s0 save 2; r1 add r2 r0; return r1
			2: print s0; print r0; return r0
			main()
			0: r5 input; r1 input; s1 input; r0 call f r5 r1 s1; print r0; return`, []int{3, 7, 9}, "9 7 10 exit 74 0 5"},
		{"a panic of a slot", "f()\n0: return\nmain()\n0: s0 input; call f; panic s0", []int{-6}, "panic user -6 6 0 2"},
		{"a panic in a call", "f(s0)\n0: r1 const 2; trapbound 2 s0 r1; return\nmain()\n0: r0 const 3; r1 call g r0; return\ng(r5) int\n0: call f r5; return r5", nil, "panic index 9 0 3"},
		{"no input", "main()\n0: s0 input; return", nil, "panic input 1 0 1"},
		{"stuck", "main()\n0: s0 input; s1 const 0; r0 div s0 s1; return", []int{6}, "stuck zero 7 0 1"},
		{"no block there", "main()\n0: s0 input; s0 len s0; return", []int{6}, "stuck block 4 0 1"},
		{"words", "f(r0) ints\n0: s0 alloc r0; return s0\nmain()\n0: r0 input; s1 call f r0 save 0; s2 call f r0 save 0; r3 const 0; store s1 r3 r0; r4 load s2 r3; r5 load s1 r3; print r4; print r5; return", []int{6}, "0 6 exit 29 14 2"},
		{"bools", "main()\n0: r0 input; s0 not r0; printbool s0; s0 not s0; printbool s0; branch s0 0 1\n1: r0 const 2; printbool r0; return", []int{1, 0}, "false true true false stuck bool 26 0 1"},
	} {
		a := sample.ALIR(x.text)
		c := hold(t, a)
		holdRuns(t, a, c, x.input, 10000)
		if no := sample.Hold(func() sample.Machine { return startCode(t, c, x.input) }, x.want); no != "" {
			t.Errorf("P2308: %s: %s", x.what, no)
		}
	}
}

// TestP2308Lost: of what a call does not save -1 is no longer there, nor anywhere else: that is why P2308 asks for no read of it.
func TestP2308Lost(t *testing.T) {
	a := sample.ALIR(sample23)
	m, _ := r16.New(hold(t, a), []int{3}, enough)
	if o, _ := m.Run(100); sample.Told(o) != "3 7 7 7 exit 18 0 2" {
		t.Error(sample.Told(o))
	}
}

// TestP2308Frames: a call takes just the words of its frame, and no more stack is asked for than there are frames.
func TestP2308Frames(t *testing.T) {
	a := sample.ALIR(`down(r0) slots 3
		0: branch r0 1 2
		1: r1 const 1; s2 sub r0 r1; call down s2 save 0 1; print r0; return
		2: return
		main() slots 1
		0: s0 input; call down s0; return`)
	c := hold(t, a)
	const depth = 9
	for words := range 3 + depth*7 + 1 {
		m, e := r16.New(c, []int{depth - 1}, api.Limits{Stack: words})
		if e != api.OK {
			t.Fatal(e)
		}
		o, _ := m.Run(api.MaxFuel)
		if is := o.End == api.Exit; is != (words == 3+depth*7) || !is && o.Kind != api.PanicStack {
			t.Errorf("P2302: %d words: %s", words, sample.Told(o))
		}
	}
}

// TestP2308Rests: a run that tells as many events as there may be, and then one more.
func TestP2308Rests(t *testing.T) {
	a := sample.ALIR("f(r0) int\n0: r1 const 1; r0 add r0 r1; return r0\nmain()\n0: s0 const 0; jump 1\n1: s1 call f s0; print s0; s0 move s1; jump 1")
	m, _ := alir.New(a, nil)
	o, _ := m.Run(api.MaxFuel)
	p, _ := startCode(t, hold(t, a), nil).Run(api.MaxFuel)
	if len(p.Events) != api.MaxEvents || !slices.Equal(o.Events, p.Events) || p.End != api.Running || p.Depth != o.Depth {
		t.Errorf("P2308: %d events, %s", len(p.Events), sample.Ending(p))
	}
}

// TestP2308Allocated: chapter 20's programs, whose registers do not outlive calls unless they are saved.
func TestP2308Allocated(t *testing.T) {
	for _, x := range []struct {
		text  string
		input []int
		want  string
	}{
		{"twice(r0) int\n0: r1 add r0 r0; return r1\nmain()\n0: r0 input; r1 call twice r0; print r1; r0 const 2; r1 alloc r0; return", []int{21}, "42 exit 10 3 2"},
		{"one() int\n0: r0 const 1; return r0\nmain()\n0: r0 input; r1 input; r2 input; r3 input; r4 input; r5 input; r6 input; r7 input; r8 call one; print r0; print r1; print r2; print r3; print r4; print r5; print r6; print r7; print r8; return",
			[]int{5, 4, 3, 2, 1, 0, -1, -2}, "5 4 3 2 1 0 -1 -2 1 exit 40 0 2"},
	} {
		a, e := alloc.Allocate(sample.LIR(x.text))
		if e != api.OK {
			t.Fatal(e)
		}
		c := hold(t, a)
		holdRuns(t, a, c, x.input, 1000)
		if o, _ := startCode(t, c, x.input).Run(1000); sample.Told(o) != x.want {
			t.Errorf("P2308: %s, want %s, of\n%s", sample.Told(o), x.want, sample.TellCode(c))
		}
	}
}
