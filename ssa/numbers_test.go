package ssa_test

import (
	"testing"

	"quern/api"
	"quern/sample"
	"quern/ssa"
)

// numbered is a program with each of its functions Numbered.
func numbered(s api.SSA) api.SSA {
	n := api.SSA{Main: s.Main}
	for _, f := range s.Funcs {
		n.Funcs = append(n.Funcs, ssa.Numbered(f))
	}
	return n
}

func TestNumbered(t *testing.T) {
	s := sample.SSA(`f(v5 int, v4 bool) int
		0: v3 const 1; branch v4 2 1
		1: v2 neg v5; jump 2
		2: v1 phi.int v3 v2; v0 print v1; return v1
		main()
		0: return`)
	f := &s.Funcs[0]
	f.Values = append(f.Values, api.Value{Op: api.InsNeg, Type: api.TypeInt, Args: []int{0}}) // stands nowhere
	want := `f(v0 int, v1 bool) int
0: v2 const 1; branch v1 2 1
1: v3 neg v0; jump 2
2: v4 phi.int v2 v3; v5 print v4; return v4
main()
0: return
`
	n := numbered(s)
	if ssa.Check(n) != api.OK || sample.Tell(n) != want || len(n.Funcs[0].Values) != 6 {
		t.Errorf("%s, want\n%s", sample.Tell(n), want)
	}
}

// TestNumberedDrawn: one text for a program, whatever its values' numbers are.
func TestNumberedDrawn(t *testing.T) {
	d := sample.Dice(9)
	for range 500 {
		s := sample.Spaced(sample.DrawSSA(&d))
		before := sample.Shape(s)
		n := numbered(s)
		want := sample.Tell(n)
		if ssa.Check(n) != api.OK || sample.Tell(numbered(n)) != want || sample.Tell(numbered(sample.Mixed(&d, s))) != want {
			t.Fatalf("of\n%s\n%s", sample.Tell(s), want)
		}
		if !sample.Parted(n) || sample.Shape(s) != before {
			t.Fatal("what is told shares memory, or what was handed in has changed")
		}
	}
}
