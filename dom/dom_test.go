package dom_test

import (
	"math"
	"slices"
	"testing"

	"quern/dom"
)

type row struct {
	to    [][]int
	reach []bool
	tree  []int
}

func holdRows(t *testing.T, promise string, rows []row) {
	t.Helper()
	for _, x := range rows {
		if is := dom.Reach(x.to); !slices.Equal(is, x.reach) {
			t.Errorf("%s: Reach(%v) = %v, want %v", promise, x.to, is, x.reach)
		}
		if is := dom.Tree(x.to); !slices.Equal(is, x.tree) {
			t.Errorf("%s: Tree(%v) = %v, want %v", promise, x.to, is, x.tree)
		}
	}
}

func yes(n int) []bool { return slices.Repeat([]bool{true}, n) }

func TestExamples(t *testing.T) {
	holdRows(t, "examples", []row{
		{nil, nil, nil},
		{[][]int{{1}}, nil, nil},
		{[][]int{{0, -1}}, nil, nil},
		{[][]int{{}}, yes(1), []int{-1}},
		{[][]int{{1, 2}, {3}, {3}, {}}, yes(4), []int{-1, 0, 0, 0}},
		{[][]int{{1}, {2, 3}, {1}, {}}, yes(4), []int{-1, 0, 1, 1}},
		{[][]int{{1, 2}, {3}, {3, 4}, {5}, {5}, {}}, yes(6), []int{-1, 0, 0, 0, 2, 0}},
		{[][]int{{1, 1}, {1}, {1}}, []bool{true, true, false}, []int{-1, 0, -1}},
		{[][]int{{2}, {0}, {2}}, []bool{true, false, true}, []int{-1, -1, 0}},
	})
}

func TestP801NotGood(t *testing.T) {
	for _, to := range [][][]int{
		{}, {{-1}}, {{1}}, {{1}, {2}}, {{0}, {-1}}, {{}, {}, {3}}, {{1, 0}, {0, 0, 1, 2}},
		{{math.MinInt}}, {{math.MaxInt}}, {{}, {math.MinInt}}, {{1}, {}, {0, math.MaxInt}},
		{{}, {}, {}, {-1, 0}}, // of a block to which there is no way
	} {
		if is := dom.Reach(to); is != nil {
			t.Errorf("P801: Reach(%v) = %v", to, is)
		}
		if is := dom.Tree(to); is != nil {
			t.Errorf("P801: Tree(%v) = %v", to, is)
		}
	}
}

func TestP802Reach(t *testing.T) {
	holdRows(t, "P802", []row{
		{[][]int{{0}}, yes(1), []int{-1}},
		{[][]int{{0, 0}, {0}}, []bool{true, false}, []int{-1, -1}},
		{[][]int{{}, {2}, {1}}, []bool{true, false, false}, []int{-1, -1, -1}},
		{[][]int{{4}, {2}, {1, 4}, {3}, {}}, []bool{true, false, false, false, true}, []int{-1, -1, -1, -1, 0}},
		{[][]int{{3}, {0}, {1}, {2}}, yes(4), []int{-1, 2, 3, 0}},
	})
}

func TestP803Tree(t *testing.T) {
	holdRows(t, "P803", []row{
		// twice to one block, to itself, back to block 0
		{[][]int{{1, 1, 1}, {1, 0, 2, 2}, {0, 0}}, yes(3), []int{-1, 0, 1}},
		// a block to which there is no way leads into an arm: it counts for nothing
		{[][]int{{1}, {2}, {}, {2, 0}}, []bool{true, true, true, false}, []int{-1, 0, 1, -1}},
		// a loop in a loop in a loop, each left from its head
		{[][]int{{1}, {2, 6}, {3, 5}, {4, 2}, {3}, {1}, {}}, yes(7), []int{-1, 0, 1, 2, 3, 2, 1}},
		// a loop with two entries, and what comes behind it
		{[][]int{{1, 2}, {2, 3}, {1}, {}}, yes(4), []int{-1, 0, 0, 1}},
		// two loops with two entries, one in the other
		{[][]int{{1, 4}, {2, 3}, {3}, {2, 4}, {1, 5}, {}}, yes(6), []int{-1, 0, 1, 1, 0, 4}},
		// the paper's own list: R A B C D E F G H I J K L
		{[][]int{{1, 2, 3}, {4}, {1, 4, 5}, {6, 7}, {12}, {8}, {9}, {9, 10}, {5, 11}, {11}, {9}, {9, 0}, {8}},
			yes(13), []int{-1, 0, 0, 0, 0, 0, 3, 3, 0, 0, 7, 0, 4}},
	})
}

func TestP803Ways(t *testing.T) {
	for _, to := range [][][]int{
		{{1, 2}, {2, 3}, {1, 4}, {4}, {3, 0}},
		{{1}, {2, 5}, {3, 1}, {4, 2, 0}, {3, 6}, {4}, {1, 1}},
		{{2}, {2, 0}, {3, 4}, {5}, {5, 4}, {2, 6}, {}, {6, 1}},
	} {
		hold(t, to)
	}
}

func TestP804Over(t *testing.T) {
	loop := []int{-1, 0, 1, 1}
	far := []int{math.MinInt, 0, math.MaxInt, 2, 3}
	for _, x := range []struct {
		tree []int
		a, b int
		want bool
	}{
		{loop, 0, 3, true}, {loop, 1, 3, true}, {loop, 3, 3, true}, {loop, 2, 3, false},
		{loop, 4, 3, false}, {loop, -1, 0, false}, {loop, 0, 4, false}, {loop, 0, -1, false}, {loop, 4, 4, false},
		{loop, -1, -1, false}, {loop, math.MaxInt, 0, false}, {loop, 0, math.MinInt, false}, {loop, 3, 1, false},
		{nil, 0, 0, false}, {[]int{}, -1, -1, false},
		{[]int{1, 0}, 0, 1, false}, {[]int{0}, 0, 0, false},
		{[]int{9, 0}, 1, 1, true}, {[]int{9, 0}, 0, 1, true},
		{[]int{1}, 0, 0, true}, {[]int{1}, 1, 0, false}, // the first number that is no entry
		{far, 0, 1, true}, {far, 2, 4, true}, {far, 3, 4, true}, {far, 0, 4, false}, {far, 1, 4, false}, {far, 4, 3, false},
		// a tail that leads into a circle: a stands ahead of it, in it, or elsewhere
		{[]int{1, 2, 1, -1}, 0, 0, false}, {[]int{1, 2, 1, -1}, 1, 0, false}, {[]int{1, 2, 1, -1}, 2, 1, false},
		{[]int{1, 2, 1, -1}, 3, 0, false}, {[]int{1, 2, 1, -1}, 3, 3, true}, {[]int{1, 2, 1, 3}, 3, 3, false},
		// the longest way up that ends has all entries
		{[]int{-1, 0, 1, 2, 3}, 0, 4, true}, {[]int{1, 2, 3, 4, 5}, 4, 0, true}, {[]int{1, 2, 3, 4, 0}, 4, 0, false},
	} {
		if is := dom.Over(x.tree, x.a, x.b); is != x.want {
			t.Errorf("P804: Over(%v, %d, %d) = %v", x.tree, x.a, x.b, is)
		}
	}
}

// wayUp tells the way up from b, and whether it ends, by the set of those that were met.
func wayUp(tree []int, b int) ([]int, bool) {
	var way []int
	for b >= 0 && b < len(tree) {
		if slices.Contains(way, b) {
			return nil, false
		}
		way = append(way, b)
		b = tree[b]
	}
	return way, true
}

// TestP804AnyList: every list of up to five entries, each from -1 to the length, and every a and b in and about it.
func TestP804AnyList(t *testing.T) {
	for n := range 6 {
		tree := slices.Repeat([]int{-1}, n)
		for {
			for b := -1; b <= n; b++ {
				way, ends := wayUp(tree, b)
				for a := -1; a <= n; a++ {
					if is := dom.Over(tree, a, b); is != (ends && slices.Contains(way, a)) {
						t.Fatalf("P804: Over(%v, %d, %d) = %v", tree, a, b, is)
					}
				}
			}
			i := 0
			for i < n && tree[i] == n {
				tree[i] = -1
				i++
			}
			if i == n {
				break
			}
			tree[i]++
		}
	}
}

// TestP804NoWay: of what Tree answers a block to which there is no way is over itself alone.
func TestP804NoWay(t *testing.T) {
	tree := dom.Tree([][]int{{1}, {}, {1, 3}, {2, 0}})
	for b := range 4 {
		for _, lost := range []int{2, 3} {
			if dom.Over(tree, lost, b) != (b == lost) || dom.Over(tree, b, lost) != (b == lost) {
				t.Errorf("P804: Over of %d and %d, to one of which there is no way", lost, b)
			}
		}
	}
}
