package build_test

import (
	"slices"
	"testing"

	"quern/api"
	"quern/sem"
	"quern/ssarun"
)

// runs are the runs of a program as a tree and as SSA, up to that many steps.
type runs struct {
	t     testing.TB
	tree  api.Tree
	ssa   api.SSA
	input []int
}

func (r runs) ofTree(steps int) api.Outcome {
	m, err := sem.New(r.tree, r.input)
	if err != api.OK {
		r.t.Fatalf("sem: %v", err)
	}
	o, _ := m.Run(steps)
	return o
}

func (r runs) ofSSA(steps int) api.Outcome {
	m, err := ssarun.New(r.ssa, r.input)
	if err != api.OK {
		r.t.Fatalf("ssarun: %v", err)
	}
	o, _ := m.Run(steps)
	return o
}

// hold asks what chapter 25 says of these two levels at so many steps, and tells how the tree's run has ended.
func (r runs) hold(steps int) api.Outcome {
	r.t.Helper()
	size := 2
	for _, f := range r.ssa.Funcs {
		size += len(f.Values) + len(f.Blocks)
	}
	low, above := r.ofSSA(steps), r.ofTree((steps+1)*(4*len(r.tree.Nodes)+4))
	if low.End == api.Stuck || !begins(above, low) || ended(low) && !sameEnd(low, above) {
		r.t.Errorf("SSA at %d steps: %+v\ntree: %+v", steps, low, above)
	}
	above, low = r.ofTree(steps), r.ofSSA((steps+1)*size)
	if above.Words == api.MaxWords {
		return above
	}
	if !begins(low, above) || ended(above) && (!sameEnd(low, above) || low.Words != above.Words || low.Depth != above.Depth) {
		r.t.Errorf("tree at %d steps: %+v\nSSA: %+v", steps, above, low)
	}
	return above
}

func begins(long, short api.Outcome) bool {
	return len(short.Events) <= len(long.Events) && slices.Equal(short.Events, long.Events[:len(short.Events)])
}

// ended tells whether a run has ended by what the program does: not for want of room.
func ended(o api.Outcome) bool {
	return o.End == api.Exit || o.End == api.Panic && o.Kind != api.PanicHeap
}

func sameEnd(a, b api.Outcome) bool {
	return a.End == b.End && a.Kind == b.Kind && a.Value == b.Value && len(a.Events) == len(b.Events)
}

// TestRuns runs programs to their ends, as trees and as SSA.
func TestRuns(t *testing.T) {
	for _, x := range []struct {
		text  string
		input []int
		want  []int // the events' values
		end   int
	}{
		{"func fib(n int) int { if n < 2 { return n; } return fib(n - 1) + fib(n - 2); } func main() { var i int; for i < 12 { print(fib(i)); i = i + 1; } }",
			nil, []int{0, 1, 1, 2, 3, 5, 8, 13, 21, 34, 55, 89}, api.Exit},
		{"func main() { var a int = input(); var b int = input(); for b != 0 { var c int = a % b; a = b; b = c; } print(a); }", []int{1071, 462}, []int{21}, api.Exit},
		{`func main() { var n int = 30; var a []int = make([]int, n); var i int = 2;
			for i < n { if a[i] == 0 { print(i); var k int = i * i; for k < n { a[k] = 1; k = k + i; } } i = i + 1; } }`,
			nil, []int{2, 3, 5, 7, 11, 13, 17, 19, 23, 29}, api.Exit},
		{"func main() { var n int = input(); for { print(n); if n == 1 { break; } if n % 2 == 0 { n = n / 2; continue; } n = 3 * n + 1; } print(0); }",
			[]int{6}, []int{6, 3, 10, 5, 16, 8, 4, 2, 1, 0}, api.Exit},
		{`func sort(a []int) { var i int = 1; for i < len(a) { var k int = i; for k > 0 && a[k - 1] > a[k] { var x int = a[k]; a[k] = a[k - 1]; a[k - 1] = x; k = k - 1; } i = i + 1; } }
			func main() { var a []int = make([]int, 6); var i int; for i < 6 { a[i] = input(); i = i + 1; } sort(a); i = 0; for i < len(a) || i == 6 { if i == 6 { break; } print(a[i]); i = i + 1; } panic(i); }`,
			[]int{5, -2, 9, 0, 5, 1}, []int{-2, 0, 1, 5, 5, 9}, api.Panic},
		{"func main() { var a int = 1; var b int = 2; var i int; for i < 5 { var c int = a; a = b; b = c; i = i + 1; } print(a); print(b); }", nil, []int{2, 1}, api.Exit},
		{"func main() { var i int; for i < 3 { var a int; var k int; for { if k > i { break; } a = a + k; k = k + 1; } print(a); i = i + 1; } }", nil, []int{0, 1, 3}, api.Exit},
		{"func main() { var b bool = input() > 0; print(b && input() > 0 || !b); print(b); }", []int{1, 0}, []int{0, 1}, api.Exit},
		{"func main() { var a []int = make([]int, 3); a[input() + 1] = 4; print(a[2]); a[3 - len(a) + 3] = 1; }", []int{1}, []int{4}, api.Panic},
	} {
		tree := read(t, x.text)
		r := runs{t, tree, built(t, tree), x.input}
		for _, steps := range []int{0, 1, 2, 3, 10, 30, 100, 300, 20000} {
			r.hold(steps)
		}
		o := r.ofSSA(100000)
		var got []int
		for _, e := range o.Events {
			got = append(got, e.Value)
		}
		if !slices.Equal(got, x.want) || o.End != x.end {
			t.Errorf("%s: %+v, want %v", x.text, o, x.want)
		}
	}
	tree := read(t, everything)
	for _, input := range [][]int{nil, {1}, {1, 2}, {5, 0, 3}, {0, 0, 0, 1}, {-1, 4, 4}} {
		r := runs{t, tree, built(t, tree), input}
		for steps := range 200 {
			r.hold(steps)
		}
	}
}
