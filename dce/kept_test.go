package dce_test

import (
	"sync"
	"testing"

	"quern/api"
	"quern/dce"
	"quern/sample"
)

// busy has all that a list may be of: some values of it are wanted, some not, and some lists are empty.
const busy = `f(n int, b bool) int
	0: zero const 0; c eq n zero; y neg n; branch c 1 2
	1: x input; return x
	2: one const 1; m sub n one; d not b; y2 call f m d; z add y2 n; w mul z z; printbool b; return z
	main()
	0: z const 0; t const true; four const 4; a alloc four; jump 1
	1: i phi.int z k; q phi.int z q; s phi.int z p; one const 1; k add i one; x call f i t; store a i x; p add s x; c lt k four; branch c 1 2
	2: j phi.int i; r phi.int q; y load a j; print y; print p; jump 3
	3: e len a; return
	g()
	0: return`

func programs() []api.SSA {
	list := []api.SSA{sample.SSA(busy), sample.SSA(sample.Loop), sample.SSA("main()\n0: return")}
	d := sample.Dice(1204)
	for range 100 {
		list = append(list, sample.DrawSSA(&d))
	}
	return list
}

func TestP1204NotChanged(t *testing.T) {
	for _, s := range programs() {
		s = sample.Spaced(s)
		before := sample.Shape(s)
		if dce.Clean(s); sample.Shape(s) != before {
			t.Fatalf("what was handed in has changed:\n%s", sample.Tell(s))
		}
	}
	for _, x := range sample.Wrongs() { // nor by a call that answers an error
		s := sample.Spaced(x.Program)
		before := sample.Shape(s)
		if _, e := dce.Clean(s); e != x.Why || sample.Shape(s) != before {
			t.Errorf("%v: what was handed in has changed", e)
		}
	}
}

func TestP1204NotKept(t *testing.T) {
	for _, s := range programs() {
		want := sample.Shape(cleaned(t, s))
		s = sample.Spaced(s)
		c := cleaned(t, s)
		sample.Spoil(s)
		if sample.Shape(c) != want {
			t.Fatalf("what was handed in is kept: it was written over, and\n%+v\nis left", c)
		}
	}
}

func TestP1204NewMemory(t *testing.T) {
	for _, s := range programs() {
		s = sample.Spaced(s)
		before := sample.Shape(s)
		c, other := cleaned(t, s), cleaned(t, s)
		want := sample.Shape(other)
		if !sample.Parted(c) {
			t.Fatalf("two lists of an answer share memory, of\n%s", sample.Tell(s))
		}
		if sample.Shape(s) != before {
			t.Fatal("an answer that was written over is to be seen in what was handed in")
		}
		if sample.Shape(other) != want || sample.Tell(cleaned(t, s)) != sample.Tell(other) {
			t.Fatal("an answer that was written over is to be seen in another one")
		}
	}
}

func TestP1204Grown(t *testing.T) {
	for _, s := range programs() {
		s = sample.Spaced(s)
		before := sample.Shape(s)
		c := cleaned(t, s)
		want := sample.Tell(c)
		for _, list := range sample.Lists(c) {
			_ = append(list, -7, -8, -9)
		}
		for _, f := range c.Funcs {
			_ = append(f.Values, api.Value{Op: -1})
			_ = append(f.Blocks, api.Block{Body: []int{-1}})
		}
		_ = append(c.Funcs, api.SFunc{Name: "more"})
		if sample.Tell(c) != want || sample.Shape(s) != before {
			t.Fatal("what was appended to one list is to be seen in another one")
		}
	}
}

// TestSameAgain cleans one program many times, several at once.
func TestSameAgain(t *testing.T) {
	for _, s := range programs()[:20] {
		want := sample.Tell(cleaned(t, s))
		told := make([]string, 16)
		var all sync.WaitGroup
		for i := range told {
			all.Go(func() {
				c, _ := dce.Clean(s)
				told[i] = sample.Tell(c)
			})
		}
		all.Wait()
		for _, is := range told {
			if is != want {
				t.Fatalf("%s\nwant\n%s", is, want)
			}
		}
	}
}
