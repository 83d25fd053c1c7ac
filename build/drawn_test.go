package build_test

import (
	"testing"

	"quern/api"
	"quern/sample"
)

func inputFrom(d *sample.Dice) []int {
	list := make([]int, d.Below(12))
	for i := range list {
		list[i] = d.Below(9) - 3
	}
	return list
}

// scattered is a tree with other places.
func scattered(d *sample.Dice, t api.Tree) api.Tree {
	s := copyOf(t)
	for i := range s.Nodes {
		n := &s.Nodes[i]
		n.At = d.Below(100) - 50
		switch n.Kind {
		case api.NodeFunc:
			n.Where, n.Close = d.Below(100)-50, d.Below(100)-50
		case api.NodeParam, api.NodeVar, api.NodeSet, api.NodeSetAt, api.NodeName, api.NodeCall, api.NodeBinary:
			n.Where = d.Below(100) - 50
		}
	}
	return s
}

// sorts counts what was drawn: a draw of one sort would hold little.
type sorts struct {
	ends, kinds   [8]int  // of the trees' runs
	nodes, values [40]int // by their kinds, by their operations
	preds, phis   [4]int  // how many blocks have so many, or more
	taken         int     // trivial Phis
}

// holdDrawn holds what is built of a text against the oracle, and its run against the tree's.
func (s *sorts) holdDrawn(t *testing.T, d *sample.Dice, text string) {
	t.Helper()
	x := read(t, text)
	program, functions := oracle(x, d)
	want := toldProgram(program)
	r := runs{t, x, built(t, x), inputFrom(d)}
	if got := toldProgram(r.ssa); got != want {
		t.Fatalf("%s\n%s\nwant\n%s", text, got, want)
	}
	if got := toldProgram(built(t, scattered(d, x))); got != want {
		t.Fatalf("%s\nwith other places:\n%s\nwant\n%s", text, got, want)
	}
	for _, steps := range []int{d.Below(20), d.Below(80)} {
		o := r.hold(steps)
		if t.Failed() {
			t.Fatalf("%s\ninput %v", text, r.input)
		}
		s.ends[o.End]++
		s.kinds[o.Kind]++
	}
	for _, n := range x.Nodes {
		s.nodes[n.Kind]++
	}
	for i, f := range r.ssa.Funcs {
		for _, v := range f.Values {
			s.values[v.Op]++
		}
		for _, b := range f.Blocks {
			s.preds[min(len(b.Preds), 3)]++
			s.phis[min(len(b.Phis), 3)]++
		}
		s.taken += functions[i].taken
	}
}

// holdLeast wants that much of all that there can be.
func (s *sorts) holdLeast(t *testing.T, least int) {
	t.Helper()
	t.Logf("%+v", *s)
	few := func(what string, counts []int) {
		for i, n := range counts {
			if n < least {
				t.Errorf("%s: only %d of the %d. one: the draw is of one sort", what, n, i)
			}
		}
	}
	few("ends", s.ends[:api.Stuck])
	few("panics", s.kinds[:api.PanicStack])
	few("statements", s.nodes[api.NodeFunc:api.NodeContinue+1])
	few("expressions", s.nodes[api.NodeNum:api.NodeBinary+1])
	few("operations", s.values[api.InsConst:api.InsMove])
	few("Phis and Params", s.values[api.InsPhi:api.InsParam+1])
	few("Preds", s.preds[:])
	few("Phis", s.phis[:])
	few("taken away", []int{s.taken})
}

func TestDrawnPrograms(t *testing.T) {
	t.Parallel()
	d := sample.Dice(0x9e3779b97f4a7c15)
	var s sorts
	for i := range 4000 {
		s.holdDrawn(t, &d, sample.DrawText(&d, 3+d.Below(30), i%2 == 0))
	}
	s.holdLeast(t, 15)
}

// TestDrawnWays draws functions with many blocks, loops and variables.
func TestDrawnWays(t *testing.T) {
	t.Parallel()
	d := sample.Dice(0x2545f4914f6cdd1d)
	var s sorts
	for range 500 {
		s.holdDrawn(t, &d, sample.DrawText(&d, 60+d.Below(120), true))
	}
	if t.Logf("%+v", s); s.phis[3] < 100 || s.preds[3] < 500 || s.taken < 5000 {
		t.Error("the draw is of one sort")
	}
}

func TestDrawnCounts(t *testing.T) {
	t.Parallel()
	d := sample.Dice(0xd1342543de82ef95)
	for i := range 40 {
		text := sample.DrawText(&d, 20+d.Below(60), i%3 > 0)
		x := read(t, text)
		_, functions := oracle(x, &d)
		if holdCount(t, x, functions[0].count); t.Failed() {
			t.Fatal(text)
		}
	}
}
