package order_test

import (
	"runtime/debug"
	"slices"
	"testing"

	"quern/order"
)

const many = 1_000_000

// shallow lets no call be deep until what it answers is called.
func shallow() func() {
	was := debug.SetMaxStack(1 << 18)
	return func() { debug.SetMaxStack(was) }
}

// rising is the numbers from a on, below z.
func rising(a, z int) []int {
	list := make([]int, 0, z-a)
	for n := a; n < z; n++ {
		list = append(list, n)
	}
	return list
}

// falling is the numbers from z - 1 down to a.
func falling(a, z int) []int {
	list := rising(a, z)
	slices.Reverse(list)
	return list
}

func first0(list []int) []int { return append([]int{0}, list...) }

func holdLong(t *testing.T, name string, to [][]int, want []int) {
	t.Helper()
	defer shallow()()
	is := order.Line(to)
	if len(is) != len(want) {
		t.Errorf("P1604: %s: %d blocks, want %d", name, len(is), len(want))
		return
	}
	for i, b := range is {
		if b != want[i] {
			t.Errorf("P1604: %s: %d stands at %d, want %d", name, b, i, want[i])
			return
		}
	}
}

// chain leads along a row of all blocks; what the last one leads to is still to be said.
func chain(row []int) [][]int {
	to := make([][]int, len(row))
	for i, b := range row[1:] {
		to[row[i]] = []int{b}
	}
	return to
}

func TestLongChains(t *testing.T) {
	for name, row := range map[string][]int{"rising": rising(0, many), "falling": first0(falling(1, many))} {
		to := chain(row)
		last := row[many-1]
		holdLong(t, "a chain, "+name, to, row)
		for _, back := range []int{0, row[1], row[many/2], row[many-2], last} {
			to[last] = []int{back, back}
			holdLong(t, "a circle, "+name, to, row)
		}
		to[last] = []int{many}
		holdLong(t, "a chain that leads out at its end, "+name, to, nil)
		to[last] = []int{-1}
		holdLong(t, "a chain that leads to -1 at its end, "+name, to, nil)
	}
}

// TestLongLoops: each block of a chain leads to itself, to the one ahead of it and to the first one as well, ahead of the next one in its list or behind it.
func TestLongLoops(t *testing.T) {
	row := first0(falling(1, many))
	for _, behind := range []bool{false, true} {
		to := chain(row)
		for i, b := range row {
			back := []int{b, 0, row[max(i-1, 0)]}
			if behind {
				to[b] = append(to[b], back...)
			} else {
				to[b] = append(back, to[b]...)
			}
		}
		holdLong(t, "loops in loops", to, row)
	}
}

// TestLongExits: each block of a chain leads to the last one as well.
func TestLongExits(t *testing.T) {
	for _, turn := range []bool{false, true} {
		to := chain(rising(0, many))
		for b := range many - 2 {
			to[b] = append(to[b], many-1)
			if turn {
				slices.Reverse(to[b])
			}
		}
		holdLong(t, "a chain with exits", to, rising(0, many))
	}
}

// TestLongStar: a block that leads to very many, which lead nowhere, to the next one, to the one ahead.
func TestLongStar(t *testing.T) {
	up, down := rising(1, many), falling(1, many)
	for _, list := range [][]int{up, down} {
		to := make([][]int, many)
		to[0] = list
		holdLong(t, "a star", to, first0(list))
		for b := 1; b < many-1; b++ {
			to[b] = []int{b + 1}
		}
		holdLong(t, "a star, each on to the next one", to, first0(up))
		to[1], to[many-1] = nil, []int{many - 2}
		for b := 2; b < many-1; b++ {
			to[b] = []int{b - 1}
		}
		holdLong(t, "a star, each back to the one ahead", to, first0(down))
	}
}

// TestLongList: one list that has the same blocks very often.
func TestLongList(t *testing.T) {
	to := [][]int{slices.Repeat([]int{0, 1, 2}, many), slices.Repeat([]int{1}, many), slices.Repeat([]int{2, 0}, many)}
	holdLong(t, "few blocks, very often", to, []int{0, 1, 2})
	to[0][len(to[0])-1] = 1
	holdLong(t, "few blocks, another one last", to, []int{0, 2, 1})
	to[2][many] = 3
	holdLong(t, "few blocks, one that is none", to, nil)
}

// TestLongEach: very many blocks in each list.
func TestLongEach(t *testing.T) {
	const n = 3000
	all := rising(0, n)
	holdLong(t, "each to each", slices.Repeat([][]int{all}, n), first0(falling(1, n)))
	slices.Reverse(all)
	holdLong(t, "each to each, turned about", slices.Repeat([][]int{all}, n), rising(0, n))
}

// TestLongForks: a chain of forks that join again.
func TestLongForks(t *testing.T) {
	n := many / 3
	to := make([][]int, 3*n+1)
	for i := range n {
		to[3*i] = []int{3*i + 1, 3*i + 2}
		to[3*i+1], to[3*i+2] = []int{3*i + 3}, []int{3*i + 3}
	}
	holdLong(t, "forks", to, rising(0, len(to)))
}

// TestLongLost: very many blocks that can't be reached, in a circle that leads to those that can.
func TestLongLost(t *testing.T) {
	to := chain(rising(0, many))
	to[0] = []int{2}
	to[2] = []int{0}
	to[many-1] = []int{1, 3, 2, 0}
	holdLong(t, "lost blocks", to, []int{0, 2})
	to[many/2] = []int{many}
	holdLong(t, "lost blocks, one that leads out", to, nil)
}
