package dom_test

import (
	"slices"
	"testing"

	"quern/dom"
)

// roomy is a good list with spare room behind it and behind each of its lists, all of it told apart.
func roomy() [][]int {
	all := make([][]int, 0, 8)
	for b, next := range [][]int{{1, 2}, {3, 0}, {3, 2}, {}, {3}} {
		list := append(make([]int, 0, 6), next...)
		for i := len(next); i < 6; i++ {
			list = append(list, 70+10*b+i)
		}
		all = append(all, list[:len(next)])
	}
	for len(all) < 8 {
		all = append(all, []int{99, len(all)})
	}
	return all[:5]
}

// flat tells all that is in a list, its spare room too.
func flat(to [][]int) []int {
	var all []int
	for _, list := range to[:cap(to)] {
		all = append(all, len(list))
		all = append(all, list[:cap(list)]...)
	}
	return all
}

func TestP805NotChanged(t *testing.T) {
	to := roomy()
	dom.Reach(to)
	dom.Tree(to)
	if !slices.Equal(flat(to), flat(roomy())) {
		t.Errorf("P805: a list was changed: %v", flat(to))
	}
	bad := roomy()
	bad[4] = append(bad[4], 5)
	was := flat(bad)
	dom.Reach(bad)
	dom.Tree(bad)
	if !slices.Equal(flat(bad), was) {
		t.Errorf("P805: a list that is not good was changed: %v", flat(bad))
	}
	tree := append(make([]int, 0, 9), -1, 0, 1, 3, 9, 7, 7)
	whole := slices.Clone(tree)
	for a := range 5 {
		for b := range 5 {
			dom.Over(tree[:5], a, b)
		}
	}
	if !slices.Equal(tree, whole) {
		t.Errorf("P805: a tree was changed: %v", tree)
	}
}

// TestP805NewMemory: what is done with an answer, its spare room too, or with the list afterwards, is seen in no other answer.
func TestP805NewMemory(t *testing.T) {
	to := roomy()
	reached, tree := dom.Reach(to), dom.Tree(to)
	again, second := dom.Reach(to), dom.Tree(to)
	for i := range cap(reached) {
		reached[:cap(reached)][i] = !reached[:cap(reached)][i]
	}
	for i := range cap(tree) {
		tree[:cap(tree)][i] = 77
	}
	if !slices.Equal(flat(to), flat(roomy())) {
		t.Errorf("P805: the list stands in an answer")
	}
	for b := range to {
		to[b] = to[b][:0]
	}
	if !slices.Equal(again, []bool{true, true, true, true, false}) || !slices.Equal(second, []int{-1, 0, 0, 0, -1}) {
		t.Errorf("P805: answers changed to %v, %v", again, second)
	}
	if is := dom.Tree(to); !slices.Equal(is, []int{-1, -1, -1, -1, -1}) {
		t.Errorf("P805: of the list as it is now: %v", is)
	}
	if is := dom.Tree(roomy()); !slices.Equal(is, second) {
		t.Errorf("P805: of the list as it was: %v", is)
	}
}
