package unssa_test

import (
	"slices"
	"testing"

	"quern/api"
	"quern/lir"
	"quern/sample"
	"quern/ssarun"
)

func runSSA(t testing.TB, s api.SSA, input []int, fuel int) api.Outcome {
	t.Helper()
	m, e := ssarun.New(s, input)
	if e != api.OK {
		t.Fatalf("ssarun.New: %v", e)
	}
	o, _ := m.Run(fuel)
	return o
}

func runLIR(t testing.TB, l api.LIR, input []int, fuel int) api.Outcome {
	t.Helper()
	m, e := lir.New(l, input)
	if e != api.OK {
		t.Fatalf("lir.New: %v", e)
	}
	o, _ := m.Run(fuel)
	return o
}

// follows tells whether a run that has gone at least as far as another one does what that one does.
func follows(far, near api.Outcome) bool {
	if len(near.Events) > len(far.Events) || !slices.Equal(near.Events, far.Events[:len(near.Events)]) {
		return false
	}
	if near.End == api.Running {
		return near.Words <= far.Words && near.Depth <= far.Depth
	}
	return len(near.Events) == len(far.Events) && near.End == far.End && near.Kind == far.Kind && near.Value == far.Value &&
		near.Words == far.Words && near.Depth == far.Depth
}

// slower tells how many steps of SSA go with one of LIR at most, and of LIR with one of SSA.
func slower(s api.SSA, l api.LIR) (ssa, lir int) {
	ssa, lir = 2, 2
	for i, f := range s.Funcs {
		for _, b := range f.Blocks {
			ssa += len(b.Phis)
		}
		lir += len(l.Funcs[i].Blocks) - len(f.Blocks)
		for _, b := range l.Funcs[i].Blocks {
			for _, x := range b.Body {
				if x.Op == api.InsMove {
					lir++
				}
			}
		}
	}
	return ssa, lir
}

// holdRun holds the runs of a program and of its LIR against each other, and tells that of SSA.
func holdRun(t *testing.T, s api.SSA, l api.LIR, input []int, fuel int) api.Outcome {
	t.Helper()
	a, b := slower(s, l)
	x, y := runSSA(t, s, input, fuel), runLIR(t, l, input, (fuel+1)*b)
	if !follows(y, x) {
		t.Fatalf("P1506: %d steps, input %v:\n%s\nLIR:\n%s\nof\n%s", fuel, input, sample.Told(x), sample.Told(y), sample.Tell(s))
	}
	near, far := runLIR(t, l, input, fuel), runSSA(t, s, input, (fuel+1)*a)
	if !follows(far, near) {
		t.Fatalf("P1506: %d steps of LIR, input %v:\n%s\nSSA:\n%s\nof\n%s", fuel, input, sample.Told(near), sample.Told(far), sample.Tell(s))
	}
	return x
}

// TestP1506Runs runs programs, and their LIR at every number of steps.
func TestP1506Runs(t *testing.T) {
	const fib = "0: n input; zero const 0; one const 1; jump 1\n1: a phi.int zero b; b phi.int one s; k phi.int n m; s add a b; print a; m sub k one; c lt zero k; branch c 1 2\n2: print b; return"
	const swap = "0: a const 1; b const 2; n const 3; z const 0; o const 1; jump 1\n1: x phi.int a y; y phi.int b x; k phi.int n m; print x; print y; m sub k o; c eq m z; branch c 2 1\n2: print x; print y; panic k"
	const turn = "0: a const 1; b const 2; c const 3; d const 4; e const 5; n const 7; z const 0; o const 1; jump 1\n1: v phi.int a w; w phi.int b x; x phi.int c v; y phi.int d q; q phi.int e y; k phi.int n m; last phi.int z v; print v; print w; print x; print y; print q; print last; m sub k o; f lt z m; branch f 1 2\n2: return"
	for _, x := range []struct {
		what, text string
		input      []int
		want       string // of SSA
	}{
		{"the loop", sample.Loop, nil, "0 1 2 exit 31 0 1"},
		{"Fibonacci's numbers", "main()\n" + fib, []int{6}, "0 1 1 2 3 5 8 13 exit 62 0 1"},
		{"no input", "main()\n" + fib, nil, "panic input 1 0 1"},
		{"two that change places", "main()\n" + swap, nil, "1 2 2 1 1 2 1 2 panic user 1 33 0 1"},
		{"circles of three and of two", "main()\n" + turn, nil, "1 2 3 4 5 0 2 3 1 5 4 1 3 1 2 4 5 2 1 2 3 5 4 3 2 3 1 4 5 1 3 1 2 5 4 2 1 2 3 4 5 3 exit 122 0 1"},
		{"the way that is taken, of two to one block", "main()\n0: a input; b input; c lt a b; branch c 1 1\n1: m phi.int a b; p phi.bool c c; print m; printbool p; branch p 2 2\n2: q phi.int b a; print q; return",
			[]int{3, 8}, "3 true 8 exit 12 0 1"},
		{"the other one", "main()\n0: a input; b input; c lt a b; branch c 1 1\n1: m phi.int a b; p phi.bool c c; print m; printbool p; branch p 2 2\n2: q phi.int b a; print q; return",
			[]int{8, 3}, "3 false 8 exit 12 0 1"},
		{"calls, each with Phis of its own", `f(n int) int
			0: z const 0; o const 1; c eq n z; branch c 1 2
			1: jump 3
			2: m sub n o; r call f m; s add r n; jump 3
			3: x phi.int o s; y phi.int n m; print y; print x; return x
			main()
			0: a const 3; b call f a; print b; return`, nil, "0 1 0 2 1 4 2 7 7 exit 53 0 5"},
		{"stuck behind a loop", "main()\n0: a const 2; o const 1; jump 1\n1: k phi.int a m; m sub k o; print m; q div k m; print q; jump 1", nil, "1 2 0 stuck zero 13 0 1"},
		{"stuck at a word", "main()\n0: n const 2; a alloc n; z const 0; o const 1; jump 1\n1: i phi.int z k; l phi.ints a l; k add i o; store l i k; x load l i; print x; jump 1", nil, "1 2 stuck element 23 3 1"},
		{"words", "main()\n0: n const nil; z const 0; o const 1; t const 4; jump 1\n1: i phi.int z k; l phi.ints n m; k add i o; m alloc k; x len l; y len m; print x; print y; c lt k t; branch c 1 2\n2: y2 len m; store m z y2; v load m z; print v; return",
			nil, "0 1 1 2 2 3 3 4 4 exit 50 14 1"},
		{"no room", "main()\n0: n const 4611686018427387904; o const 1; jump 1\n1: i phi.int o n; a alloc i; print i; jump 1", nil, "1 panic heap 9 2 1"},
		{"a trap behind a loop", "main()\n0: n const 2; o const 1; jump 1\n1: i phi.int n k; trapneg 3 i; print i; k sub i o; jump 1", nil, "2 1 0 panic shift 20 0 1"},
	} {
		s := sample.SSA(x.text)
		l := lowered(t, s)
		whole := runSSA(t, s, x.input, 10000)
		if is := sample.Told(whole); is != x.want {
			t.Errorf("%s: %s, want %s", x.what, is, x.want)
		}
		for fuel := range whole.Steps + 2 {
			holdRun(t, s, l, x.input, fuel)
		}
	}
}

// TestP1506Rests: both rest at the same events.
func TestP1506Rests(t *testing.T) {
	s := sample.SSA("main()\n0: z const 0; o const 1; jump 1\n1: i phi.int z j; j phi.int o i; print j; jump 1")
	a, b := runSSA(t, s, nil, 1<<23), runLIR(t, lowered(t, s), nil, 1<<24)
	if a.End != api.Running || b.End != api.Running || len(a.Events) != api.MaxEvents || !slices.Equal(a.Events, b.Events) {
		t.Errorf("%d events at %d steps, %d at %d", len(a.Events), a.Steps, len(b.Events), b.Steps)
	}
}
