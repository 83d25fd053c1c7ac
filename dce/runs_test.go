package dce_test

import (
	"slices"
	"testing"

	"quern/api"
	"quern/sample"
)

// TestP1203Runs runs programs as they are and as they are left.
func TestP1203Runs(t *testing.T) {
	for _, x := range []struct {
		what, text string
		input      []int
		want       []int // events
		end, kind  int
		fewer      int // steps
	}{
		{"the loop", sample.Loop, nil, []int{0, 1, 2}, api.Exit, 0, 0},
		{"all of it", busy, []int{3, 1, 4, 1, 5}, nil, api.Exit, 0, 1},
		{"a panic of a value", "main()\n0: a const 1; b const 7; c add a b; d neg c; print b; panic c", nil, []int{7}, api.Panic, api.PanicUser, 1},
		{"a trap", "main()\n0: a const 1; b const 0; x neg a; print a; trapzero 1 b; c div a b; return", nil, []int{1}, api.Panic, api.PanicDivide, 1},
		{"words that nobody reads", "main()\n0: a const 5; b alloc a; c alloc a; d len c; return", nil, nil, api.Exit, 0, 1},
		{"no room", "main()\n0: x const 1; a const 4611686018427387904; b alloc a; return", nil, nil, api.Panic, api.PanicHeap, 1},
		{"an input that nobody reads", "main()\n0: a input; b input; c neg b; print a; d input; return", []int{8, 9}, []int{8}, api.Panic, api.PanicInput, 1},
		{"a call that nobody reads", "f(a int) int\n0: b neg a; c const 0; print b; d lt a c; branch d 1 2\n1: return b\n2: e call f b; return e\nmain()\n0: a const 3; b call f a; return",
			nil, []int{-3, 3}, api.Exit, 0, 0},
		{"what is set, then read", "main()\n0: n const 2; a alloc n; z const 0; o const 1; v const 9; store a z v; x load a o; y load a z; print y; return",
			nil, []int{9}, api.Exit, 0, 1},
	} {
		s := sample.SSA(x.text)
		left := cleaned(t, s)
		a, b := run(t, s, x.input, 10000), run(t, left, x.input, 10000)
		var values []int
		for _, e := range b.Events {
			values = append(values, e.Value)
		}
		if a.End != x.end || a.Kind != x.kind || a.Steps-b.Steps < x.fewer || x.want != nil && !slices.Equal(values, x.want) {
			t.Errorf("%s: %+v, want %v, the ending %d, %d", x.what, a, x.want, x.end, x.kind)
		}
		for fuel := range a.Steps + 2 {
			holdRun(t, s, left, x.input, fuel)
		}
	}
}

// TestP1203Stuck: what was stuck may be gone, or stay.
func TestP1203Stuck(t *testing.T) {
	for _, x := range []struct {
		text string
		kind int
		gone bool
	}{
		{"main()\n0: a const 1; b const 0; print a; c div a b; print b; return", api.StuckZero, true},
		{"main()\n0: a const 1; b const 0; print a; c div a b; print c; return", api.StuckZero, false},
		{"main()\n0: a const 1; b const -1; print a; c shl a b; print b; return", api.StuckShift, true},
		{"main()\n0: a const 1; b const nil; print a; c load b a; return", api.StuckBlock, true},
		{"main()\n0: a const 1; b const nil; print a; store b a a; return", api.StuckBlock, false},
		{"main()\n0: a const 1; b alloc a; print a; c load b a; return", api.StuckElement, true},
		{"main()\n0: a const 1; b const -1; print a; c alloc b; return", api.StuckBlock, false},
	} {
		s := sample.SSA(x.text)
		left := cleaned(t, s)
		a, b := holdRun(t, s, left, nil, 100), run(t, left, nil, 100)
		if a.End != api.Stuck || a.Kind != x.kind || (b.End == api.Exit) != x.gone || !x.gone && (b.End != api.Stuck || b.Kind != x.kind) {
			t.Errorf("%s: %+v, and what is left: %+v", x.text, a, b)
		}
	}
}

// TestP1203Rests: both rest at the same events.
func TestP1203Rests(t *testing.T) {
	s := sample.SSA("main()\n0: z const 0; o const 1; jump 1\n1: i phi.int z k; k add i o; x mul k k; print k; jump 1")
	left := cleaned(t, s)
	a, b := run(t, s, nil, 1<<23), run(t, left, nil, 1<<23)
	if a.End != api.Running || b.End != api.Running || len(a.Events) != api.MaxEvents || !slices.Equal(a.Events, b.Events) || b.Steps >= a.Steps {
		t.Errorf("%d events at %d steps, %d at %d", len(a.Events), a.Steps, len(b.Events), b.Steps)
	}
}
