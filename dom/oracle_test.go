package dom_test

import (
	"slices"
	"testing"

	"quern/dom"
)

// dice draws numbers, the same ones in every run.
type dice uint64

func (d *dice) below(n int) int {
	*d ^= *d << 13
	*d ^= *d >> 7
	*d ^= *d << 17
	return int(uint64(*d) >> 1 % uint64(n))
}

// without tells to which blocks there is a way that the block out is not in (-1: any way).
func without(to [][]int, out int) []bool {
	reached := make([]bool, len(to))
	if out == 0 {
		return reached
	}
	reached[0] = true
	work := []int{0}
	for len(work) > 0 {
		b := work[0]
		work = work[1:]
		for _, next := range to[b] {
			if next != out && !reached[next] {
				reached[next] = true
				work = append(work, next)
			}
		}
	}
	return reached
}

// dominance tells, by the ways alone, which blocks dominate which: [a][b].
func dominance(to [][]int) [][]bool {
	all := without(to, -1)
	over := make([][]bool, len(to))
	for a := range to {
		over[a] = make([]bool, len(to))
		left := without(to, a)
		for b := range to {
			over[a][b] = all[b] && !left[b]
		}
	}
	return over
}

// nearest tells b's immediate dominator by P803's words: of the others that dominate b the one that all of these dominate.
func nearest(t *testing.T, over [][]bool, b int) int {
	t.Helper()
	found := -1
	for a := range over {
		if a == b || !over[a][b] {
			continue
		}
		last := true
		for c := range over {
			last = last && (c == b || !over[c][b] || over[c][a])
		}
		if last && found >= 0 {
			t.Fatalf("two immediate dominators of %d", b)
		}
		if last {
			found = a
		}
	}
	return found
}

// hold asks every call about a good list, and holds the answers against the ways.
func hold(t *testing.T, to [][]int) {
	t.Helper()
	over := dominance(to)
	reached := without(to, -1)
	want := make([]int, len(to))
	for b := range to {
		want[b] = nearest(t, over, b)
	}
	if is := dom.Reach(to); !slices.Equal(is, reached) {
		t.Fatalf("P802: Reach(%v) = %v, want %v", to, is, reached)
	}
	tree := dom.Tree(to)
	if !slices.Equal(tree, want) {
		t.Fatalf("P803: Tree(%v) = %v, want %v", to, tree, want)
	}
	for a := range to {
		for b := range to {
			if is := dom.Over(tree, a, b); is != (over[a][b] || a == b) {
				t.Fatalf("P804: Over(Tree(%v), %d, %d) = %v", to, a, b, is)
			}
		}
	}
}

// TestAllSmall: every list of up to four blocks, of which each leads to any set of blocks.
func TestAllSmall(t *testing.T) {
	for n := 1; n <= 4; n++ {
		for bits := range 1 << (n * n) {
			to := make([][]int, n)
			for i := range n * n {
				if bits>>i&1 != 0 {
					to[i/n] = append(to[i/n], i%n)
				}
			}
			hold(t, to)
		}
	}
}

// drawn is a list of n blocks with some exits each, in any order and perhaps twice; near: exits lead not far.
func drawn(d *dice, n, exits, near int) [][]int {
	to := make([][]int, n)
	for b := range to {
		for range d.below(exits + 1) {
			next := d.below(n)
			if near > 0 {
				next = min(max(b+d.below(2*near+1)-near+1, 0), n-1)
			}
			to[b] = append(to[b], next)
		}
	}
	return to
}

func TestDrawn(t *testing.T) {
	d := dice(88172645463325252)
	for turn := range 4000 {
		n := 1 + d.below(12)
		hold(t, drawn(&d, n, 1+d.below(3), turn%4))
	}
	for turn := range 150 {
		hold(t, drawn(&d, 20+d.below(40), 2+d.below(2), turn%7))
	}
	for turn := range 6 {
		hold(t, threaded(&d, 150, 10+turn*60))
	}
}

// threaded is a chain of n blocks in a drawn order, with some further exits: there is a way to each.
func threaded(d *dice, n, more int) [][]int {
	to := make([][]int, n)
	names := []int{0}
	for i := 1; i < n; i++ {
		names = slices.Insert(names, 1+d.below(i), i)
	}
	for i, b := range names[1:] {
		to[names[i]] = append(to[names[i]], b)
	}
	for range more {
		b := d.below(n)
		to[b] = slices.Insert(to[b], d.below(len(to[b])+1), d.below(n))
	}
	return to
}
