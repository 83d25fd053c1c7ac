package unssa_test

import (
	"sync"
	"testing"

	"quern/api"
	"quern/sample"
	"quern/unssa"
)

// busy has all that a list may be of: new blocks with moves and without, moves in Bodies, circles; and some lists are empty.
const busy = `f(n int, b bool) int
	0: zero const 0; c eq n zero; y neg n; branch c 1 2
	1: x input; return x
	2: one const 1; m sub n one; d not b; y2 call f m d; z add y2 n; printbool b; branch d 3 3
	3: z2 phi.int z y2; return z2
	main()
	0: z const 0; t const true; four const 4; a alloc four; jump 1
	1: i phi.int z k; q phi.int z r; r phi.int four q; s phi.int z p; one const 1; k add i one; x call f i t; store a i x; p add s x; c lt k four; branch c 1 2
	2: j phi.int i; r2 phi.int q; y load a j; print y; print p; branch c 3 4
	3: e len a; branch c 4 3
	4: return
	g()
	0: return`

func programs() []api.SSA {
	list := []api.SSA{sample.SSA(busy), sample.SSA(sample.Loop), sample.SSA("main()\n0: return")}
	d := sample.Dice(1507)
	for range 100 {
		list = append(list, sample.DrawSSA(&d), drawPhis(&d))
	}
	return list
}

func TestP1507NotChanged(t *testing.T) {
	for _, s := range programs() {
		s = sample.Spaced(s)
		before := sample.Shape(s)
		if lowered(t, s); sample.Shape(s) != before {
			t.Fatalf("what was handed in has changed:\n%s", sample.Tell(s))
		}
	}
	for _, x := range sample.Wrongs() { // nor by a call that answers an error
		s := sample.Spaced(x.Program)
		before := sample.Shape(s)
		if _, e := unssa.Lower(s); e != x.Why || sample.Shape(s) != before {
			t.Errorf("%v: what was handed in has changed", e)
		}
	}
}

func TestP1507NotKept(t *testing.T) {
	for _, s := range programs() {
		want := sample.ShapeLIR(lowered(t, s))
		s = sample.Spaced(s)
		l := lowered(t, s)
		sample.Spoil(s)
		if sample.ShapeLIR(l) != want {
			t.Fatalf("what was handed in is kept: it was written over, and\n%+v\nis answered", l)
		}
	}
}

func TestP1507NewMemory(t *testing.T) {
	for _, s := range programs() {
		s = sample.Spaced(s)
		before := sample.Shape(s)
		l, other := lowered(t, s), lowered(t, s)
		want := sample.ShapeLIR(other)
		if !sample.PartedLIR(l) {
			t.Fatalf("two lists of an answer share memory, of\n%s", sample.Tell(s))
		}
		sample.SpoilLIR(l)
		if sample.Shape(s) != before {
			t.Fatal("an answer that was written over is to be seen in what was handed in")
		}
		if sample.ShapeLIR(other) != want || all(lowered(t, s)) != all(other) {
			t.Fatal("an answer that was written over is to be seen in another one")
		}
	}
}

func TestP1507Grown(t *testing.T) {
	for _, s := range programs() {
		s = sample.Spaced(s)
		before := sample.Shape(s)
		l := lowered(t, s)
		want := all(l)
		for _, f := range l.Funcs {
			_ = append(f.Params, -7, -8, -9)
			_ = append(f.Blocks, api.LBlock{Term: api.Term{Kind: -1}})
			for _, b := range f.Blocks {
				_ = append(b.Term.To, -7, -8, -9)
				_ = append(b.Body, api.LIns{Op: -1}, api.LIns{Op: -2})
				for _, x := range b.Body {
					_ = append(x.Args, -7, -8, -9)
				}
			}
		}
		_ = append(l.Funcs, api.LFunc{Name: "more"})
		if all(l) != want || sample.Shape(s) != before {
			t.Fatal("what was appended to one list is to be seen in another one")
		}
	}
}

// TestSameAgain lowers one program many times, several at once.
func TestSameAgain(t *testing.T) {
	for _, s := range programs()[:40] {
		want := all(lowered(t, s))
		told := make([]string, 16)
		var waiting sync.WaitGroup
		for i := range told {
			waiting.Go(func() {
				l, _ := unssa.Lower(s)
				told[i] = all(l)
			})
		}
		waiting.Wait()
		for _, is := range told {
			if is != want {
				t.Fatalf("%s\nwant\n%s", is, want)
			}
		}
	}
}
