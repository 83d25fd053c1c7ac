package alloc_test

import (
	"testing"

	"quern/alir"
	"quern/api"
	"quern/lir"
	"quern/sample"
)

func machines(t testing.TB, l api.LIR, a api.ALIR, input []int) (*lir.Machine, *alir.Machine) {
	t.Helper()
	m, e := lir.New(l, input)
	n, why := alir.New(a, input)
	if e != api.OK || why != api.OK {
		t.Fatalf("New: %v, %v of\n%s", e, why, sample.TellLIR(l))
	}
	return m, n
}

// holdRuns holds the runs of a program and of its ALIR against each other behind each step, up to so many, and tells the last outcome.
func holdRuns(t testing.TB, l api.LIR, a api.ALIR, input []int, fuel int) api.Outcome {
	t.Helper()
	m, n := machines(t, l, a, input)
	for steps := range fuel + 1 {
		o, p := m.Outcome(), n.Outcome()
		if sample.Told(o) != sample.Told(p) {
			t.Fatalf("P2003: %d steps, input %v:\n%s\nALIR:\n%s\nof\n%s\n%s", steps, input, sample.Told(o), sample.Told(p), sample.TellLIR(l), sample.TellALIR(a))
		}
		if steps == fuel {
			return o
		}
		if made := m.Step(); n.Step() != made {
			t.Fatalf("P2003: %d steps, input %v: of both runs one goes on, of\n%s", steps, input, sample.TellLIR(l))
		} else if !made {
			return o
		}
	}
	return api.Outcome{}
}

// TestP2003Runs runs programs, and their ALIR, step by step and at once.
func TestP2003Runs(t *testing.T) {
	for _, x := range []struct {
		what, text string
		input      []int
		want       string
	}{
		{"the chapter's", second, []int{21}, "42 exit 8 3 2"},
		{"no input", second, nil, "panic input 1 0 1"},
		{"a loop", "main()\n0: r0 input; r1 const 1; r2 const 0; jump 1\n1: r2 add r2 r0; r0 sub r0 r1; branch r0 1 2\n2: print r2; return", []int{4}, "10 exit 18 0 1"},
		{"Fibonacci's numbers, by calls", `fib(r0) int
			0: r1 const 2; r2 lt r0 r1; branch r2 1 2
			1: return r0
			2: r3 const 1; r4 sub r0 r3; r5 call fib r4; r6 sub r0 r1; r7 call fib r6; r8 add r5 r7; return r8
			main()
			0: r0 input; jump 1
			1: r1 call fib r0; print r1; r2 const 1; r0 sub r0 r2; branch r0 1 2
			2: return`, []int{7}, "13 8 5 3 2 1 1 exit 710 0 8"},
		{"eight numbers around a call", `one() int
			0: r0 const 1; return r0
			main()
			0: r0 input; r1 input; r2 input; r3 input; r4 input; r5 input; r6 input; r7 call one; r8 call one; print r0; print r1; print r2; print r3; print r4; print r5; print r6; print r7; print r8; return`,
			[]int{5, 4, 3, 2, 1, 0, -1}, "5 4 3 2 1 0 -1 1 1 exit 23 0 2"},
		{"arguments that change places", `f(r0, r1, r2) int
			0: branch r0 1 2
			1: r3 const 1; r0 sub r0 r3; r4 call f r0 r2 r1; r1 add r1 r4; return r1
			2: print r1; print r2; return r2
			main()
			0: r0 input; r1 input; r2 input; r0 call f r0 r1 r2; print r0; return`, []int{3, 7, 9}, "9 7 30 exit 28 0 5"},
		{"a panic of a value that lived across a call", "f()\n0: return\nmain()\n0: r0 input; call f; panic r0", []int{6}, "panic user 6 4 0 2"},
		{"stuck", "f()\n0: return\nmain()\n0: r0 input; r1 const 0; call f; r2 div r0 r1; return", []int{6}, "stuck zero 5 0 2"},
		{"words", "f(r0) ints\n0: r1 alloc r0; return r1\nmain()\n0: r0 input; r1 call f r0; r2 call f r0; r3 const 0; store r1 r3 r0; r4 load r2 r3; r5 load r1 r3; print r4; print r5; return", []int{6}, "0 6 exit 14 14 2"},
		{"no room", "f(r0) ints\n0: r1 alloc r0; return r1\nmain()\n0: r0 input; r1 call f r0; return", []int{api.MaxWords}, "panic heap 3 0 2"},
	} {
		l := sample.LIR(x.text)
		a := hold(t, l)
		if is := sample.Told(holdRuns(t, l, a, x.input, 10000)); is != x.want {
			t.Errorf("%s: %s, want %s", x.what, is, x.want)
		}
		_, n := machines(t, l, a, x.input)
		if o, e := n.Run(api.MaxFuel); e != api.OK || sample.Told(o) != x.want {
			t.Errorf("%s, at once: %s, want %s", x.what, sample.Told(o), x.want)
		}
	}
}

// TestP2003Rests: both rest at the same step.
func TestP2003Rests(t *testing.T) {
	l := sample.LIR("f(r0) int\n0: r1 const 1; r0 add r0 r1; return r0\nmain()\n0: r0 const 0; jump 1\n1: r1 call f r0; print r0; r0 move r1; jump 1")
	m, n := machines(t, l, allocated(t, l), nil)
	o, _ := m.Run(api.MaxFuel)
	p, _ := n.Run(api.MaxFuel)
	if sample.Told(o) != sample.Told(p) || o.End != api.Running || len(o.Events) != api.MaxEvents {
		t.Errorf("%d events at %d steps, %d at %d", len(o.Events), o.Steps, len(p.Events), p.Steps)
	}
}
