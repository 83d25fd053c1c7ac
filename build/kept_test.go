package build_test

import (
	"slices"
	"sync"
	"testing"

	"quern/api"
	"quern/build"
	"quern/sample"
)

// spaced is the tree with spare room behind each of its lists, in which stand numbers and nodes.
func spaced(x api.Tree) api.Tree {
	room := func(list []int) []int {
		return append(slices.Clone(list), -5, 0, 6)[:len(list)]
	}
	s := api.Tree{Funcs: room(x.Funcs)}
	s.Nodes = append(slices.Clone(x.Nodes), api.Node{Kind: api.NodeFunc, Name: "spare", Kids: []int{0}}, api.Node{Kind: 77})[:len(x.Nodes)]
	for i := range s.Nodes {
		s.Nodes[i].Kids = room(s.Nodes[i].Kids)
	}
	return s
}

// whole is a tree with its spare room.
func whole(x api.Tree) api.Tree {
	w := api.Tree{Nodes: slices.Clone(x.Nodes[:cap(x.Nodes)]), Funcs: slices.Clone(x.Funcs[:cap(x.Funcs)])}
	for i, n := range w.Nodes {
		w.Nodes[i].Kids = slices.Clone(n.Kids[:cap(n.Kids)])
	}
	return w
}

func TestP1113NotChanged(t *testing.T) {
	full := read(t, everything)
	turned := copyOf(full)
	turned.Nodes[0].Type = api.TypeInts
	for _, x := range []struct {
		what string
		tree api.Tree
		why  api.Errno
	}{
		{"good", full, api.OK},
		{"without types", parsed(t, everything), api.ErrBuildTree},
		{"with another type", turned, api.ErrBuildTree},
		{"with too many parameters", read(t, "func main() { } func f("+params(9)+") { }"), api.ErrBuildParams},
		{"with too many blocks", read(t, withBlocks(construct{"for true { }", 3, 1}, construct{}, api.MaxBlocks+1)), api.ErrBuildBlocks},
		{"with too many values", padded(full, api.MaxValues), api.ErrBuildValues},
	} {
		given := spaced(x.tree)
		before := whole(given)
		_, _, err := build.Build(given)
		if err != x.why || !sameTree(whole(given), before) {
			t.Errorf("%s: %v, and what was handed in has changed", x.what, err)
		}
	}
}

func TestP1113NotKept(t *testing.T) {
	want := toldProgram(built(t, read(t, everything)))
	given := spaced(read(t, everything))
	s := built(t, given)
	for i := range given.Nodes[:cap(given.Nodes)] {
		n := &given.Nodes[:cap(given.Nodes)][i]
		for k := range n.Kids[:cap(n.Kids)] {
			n.Kids[:cap(n.Kids)][k] = -77
		}
		*n = api.Node{Kind: -1}
	}
	if toldProgram(s) != want {
		t.Error("what was handed in is kept")
	}
}

// TestP1113NewMemory writes over each list of an answer, spare room included.
func TestP1113NewMemory(t *testing.T) {
	x := read(t, everything)
	other := built(t, x)
	want := toldProgram(other)
	if !sample.Parted(built(t, x)) {
		t.Error("two lists share memory")
	}
	if toldProgram(other) != want || toldProgram(built(t, x)) != want {
		t.Error("an answer that was written over is to be seen in another one")
	}
}

// TestP1113Grown appends to all lists of an answer.
func TestP1113Grown(t *testing.T) {
	x := read(t, everything)
	s := built(t, x)
	want := toldProgram(s)
	for _, list := range sample.Lists(s) {
		_ = append(list, -7, -8, -9)
	}
	for _, f := range s.Funcs {
		_ = append(f.Values, api.Value{Op: -1})
		_ = append(f.Blocks, api.Block{Body: []int{-1}})
	}
	_ = append(s.Funcs, api.SFunc{Name: "more"})
	if toldProgram(s) != want {
		t.Error("what was appended to one list is to be seen in another one")
	}
}

// TestSameAgain builds one tree many times, several at once: maps and goroutines change nothing.
func TestSameAgain(t *testing.T) {
	d := sample.Dice(0x5851f42d4c957f2d)
	trees := []api.Tree{read(t, everything)}
	for range 20 {
		trees = append(trees, read(t, sample.DrawText(&d, 150, true)))
	}
	for _, x := range trees {
		want := toldProgram(built(t, x))
		told := make([]string, 16)
		var all sync.WaitGroup
		for i := range told {
			all.Go(func() {
				s, _, _ := build.Build(x)
				told[i] = toldProgram(s)
			})
		}
		all.Wait()
		for _, got := range told {
			if got != want {
				t.Fatalf("%s\nwant\n%s", got, want)
			}
		}
	}
}
