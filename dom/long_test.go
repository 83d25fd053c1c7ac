package dom_test

import (
	"slices"
	"testing"

	"quern/dom"
)

const many = 200_000

// holdLong holds what is told of a long list, to each block of which there is a way.
func holdLong(t *testing.T, name string, to [][]int, want func(b int) int) []int {
	t.Helper()
	if slices.Contains(dom.Reach(to), false) {
		t.Errorf("P802: %s: a block was not reached", name)
	}
	tree := dom.Tree(to)
	if len(tree) != len(to) || tree[0] != -1 {
		t.Fatalf("P803: %s: no tree", name)
	}
	for b := 1; b < len(tree); b++ {
		if tree[b] != want(b) {
			t.Fatalf("P803: %s: %d above %d, want %d", name, tree[b], b, want(b))
		}
	}
	return tree
}

func before(b int) int { return b - 1 }

func chain(n int) [][]int {
	to := make([][]int, n)
	for b := range n - 1 {
		to[b] = []int{b + 1}
	}
	return to
}

func TestLongChain(t *testing.T) {
	tree := holdLong(t, "chain", chain(many), before)
	if !dom.Over(tree, 0, many-1) || !dom.Over(tree, many/2, many-1) || dom.Over(tree, many-1, many-2) {
		t.Errorf("P804: of a long chain")
	}
	tree[0] = many - 1
	if dom.Over(tree, many-1, many-1) {
		t.Errorf("P804: of a long circle")
	}
}

func TestLongChainBackwards(t *testing.T) {
	to := make([][]int, many)
	to[0] = []int{many - 1}
	for b := 2; b < many; b++ {
		to[b] = []int{b - 1}
	}
	holdLong(t, "chain from its end", to, func(b int) int { return (b + 1) % many })
}

// TestLongOut: each block of a chain leads to the next one and to the last.
func TestLongOut(t *testing.T) {
	to := chain(many)
	for b := range many - 2 {
		to[b] = append(to[b], many-1)
	}
	holdLong(t, "chain with exits", to, func(b int) int {
		if b == many-1 {
			return 0
		}
		return b - 1
	})
}

// TestLongBack: loops within loops, as many as there are blocks.
func TestLongBack(t *testing.T) {
	to := chain(many)
	for b := range to {
		to[b] = append(to[b], 0, b, many-1-b)
	}
	for b := range many / 2 {
		to[b] = to[b][:3]
	}
	holdLong(t, "chain with ways back", to, before)
}

// TestLongLadder: two chains; each block of the first leads to its fellow too.
func TestLongLadder(t *testing.T) {
	for _, turn := range []int{1, -1} {
		to := chain(2 * many)
		to[many-1] = nil
		for b := range many {
			to[b] = append(to[b], many+b)
			if turn < 0 {
				slices.Reverse(to[b])
			}
		}
		holdLong(t, "ladder", to, func(b int) int {
			if b >= many {
				return 0
			}
			return b - 1
		})
	}
}

// TestLongTwoEntries: block 0 leads to both ends of a chain whose blocks lead on and back.
func TestLongTwoEntries(t *testing.T) {
	to := chain(many)
	to[0] = append(to[0], many-1)
	for b := 2; b < many; b++ {
		to[b] = append(to[b], b-1)
	}
	holdLong(t, "chain with two entries", to, func(int) int { return 0 })
}

// TestLongDiamonds: a chain of forks, each of which joins again.
func TestLongDiamonds(t *testing.T) {
	n := many / 3
	to := make([][]int, 3*n+1)
	for i := range n {
		to[3*i] = []int{3*i + 1, 3*i + 2}
		to[3*i+1], to[3*i+2] = []int{3*i + 3}, []int{3*i + 3}
	}
	holdLong(t, "forks", to, func(b int) int { return (b - 1) / 3 * 3 })
}

// TestLongList: one block that leads to another one very often, and one that leads to all.
func TestLongList(t *testing.T) {
	holdLong(t, "one way often", [][]int{slices.Repeat([]int{0, 1}, many), {2}, slices.Repeat([]int{1}, many)}, before)
	for _, further := range []bool{false, true} {
		to := make([][]int, many)
		for b := range to {
			to[0] = append(to[0], b)
			if further {
				to[b] = append(to[b], (b*7)%many)
			}
		}
		holdLong(t, "a star", to, func(int) int { return 0 })
	}
}
