package order_test

import (
	"math"
	"slices"
	"strconv"
	"strings"
	"testing"

	"quern/order"
)

// read makes the lists of blocks of a text that has a "|" between each two of them.
func read(text string) (to [][]int) {
	for list := range strings.SplitSeq(text, "|") {
		to = append(to, numbers(list))
	}
	return to
}

func numbers(text string) (list []int) {
	for word := range strings.FieldsSeq(text) {
		n, err := strconv.Atoi(word)
		if err != nil {
			panic(err)
		}
		list = append(list, n)
	}
	return list
}

func TestExamples(t *testing.T) {
	for _, x := range []struct {
		to   [][]int
		line []int
	}{
		{nil, nil},
		{[][]int{{1}}, nil},
		{[][]int{{-1}}, nil},
		{[][]int{{}}, []int{0}},
		{[][]int{{1, 2}, {3}, {3}, {}}, []int{0, 1, 2, 3}},
		{[][]int{{1}, {2, 3}, {1}, {}}, []int{0, 1, 2, 3}},
		{[][]int{{1}, {2, 3}, {4, 1}, {}, {3}}, []int{0, 1, 2, 4, 3}},
		{[][]int{{0, 0}, {0}}, []int{0}},
		{[][]int{{2, 2}, {}, {1, 0}}, []int{0, 2, 1}},
	} {
		if is := order.Line(x.to); !slices.Equal(is, x.line) {
			t.Errorf("examples: Line(%v) = %v, want %v", x.to, is, x.line)
		}
	}
}

func TestP1601None(t *testing.T) {
	for _, to := range [][][]int{
		nil, {}, make([][]int, 0, 4),
		{{-1}}, {{1}}, {{2}}, {{0, 1}}, {{1, 0}}, {{0, -1, 0}},
		{{1}, {2}}, {{1}, {-1}}, {{0}, {1, 0, 2}}, {{1}, {}, {3}},
		{nil, {2}}, {nil, {-1}}, {{}, {}, {0, 4}}, {{1}, {0}, {2, 1, -1}}, // of a block that can't be reached
		{{math.MinInt}}, {{math.MaxInt}}, {{1}, {math.MinInt}}, {{}, {math.MaxInt, 0}},
		{{1 << 32}}, {{-1 << 32}, {}},
	} {
		if is := order.Line(to); len(is) != 0 {
			t.Errorf("P1601: Line(%v) = %v", to, is)
		}
	}
}

// TestP1601EachPlace: a list with all numbers right has a line; one with a wrong number, at any of its places, has none.
func TestP1601EachPlace(t *testing.T) {
	const text = "1 2 2 | 3 1 | 0 3 | | 2 5 | 5 4 0"
	n := len(read(text))
	if is := order.Line(read(text)); len(is) != 4 {
		t.Errorf("P1601: Line(%s) = %v", text, is)
	}
	for b, list := range read(text) {
		for i := range len(list) + 1 {
			for _, wrong := range []int{-1, n, n + 1, math.MinInt, math.MaxInt} {
				to := read(text)
				to[b] = slices.Insert(to[b], i, wrong)
				if is := order.Line(to); len(is) != 0 {
					t.Fatalf("P1601: Line(%v) = %v", to, is)
				}
			}
		}
	}
}

// TestP1601Empty: a list that is nil and one that is empty mean the same.
func TestP1601Empty(t *testing.T) {
	for _, to := range [][][]int{{{1}, nil}, {{1}, {}}, {{1}, make([]int, 0, 3)}} {
		if is := order.Line(to); !slices.Equal(is, []int{0, 1}) {
			t.Errorf("P1601: Line(%v) = %v", to, is)
		}
	}
}

type row struct{ to, line string }

func holdRows(t *testing.T, rows []row) {
	t.Helper()
	for _, x := range rows {
		to := read(x.to)
		if is := order.Line(to); !slices.Equal(is, numbers(x.line)) {
			t.Errorf("P1602: Line(%s) = %v, want %s", x.to, is, x.line)
		}
		hold(t, to)
	}
}

func TestP1602Few(t *testing.T) {
	holdRows(t, []row{
		{"", "0"},
		{"0", "0"},
		{"0 0 0", "0"},
		{"1 |", "0 1"},
		{"1 | 0", "0 1"},
		{"1 | 1", "0 1"},
		{"1 2 | |", "0 1 2"},
		{"2 1 | |", "0 2 1"},
		{"1 2 3 4 | | | |", "0 1 2 3 4"},
		{"3 1 4 2 | | | |", "0 3 1 4 2"},
		// the same block twice: where it stands last in the list tells
		{"1 2 1 | |", "0 2 1"},
		{"2 1 2 | |", "0 1 2"},
		{"1 1 | 2 2 | 1 1", "0 1 2"},
		{"0 1 0 2 0 1 | |", "0 2 1"},
	})
}

func TestP1602NotReached(t *testing.T) {
	holdRows(t, []row{
		{"| 0", "0"},
		{"| 2 | 1", "0"},
		{"| 1 | 2 2", "0"},
		{"2 | 2 0 |", "0 2"},
		{"2 | 0 2 | 2 0", "0 2"},
		{"3 | 3 | 1 0 | 4 | 0 | 5", "0 3 4"},
		{"2 4 | 4 2 | | 2 1 4 |", "0 2 4"},
	})
}

func TestP1602Joins(t *testing.T) {
	holdRows(t, []row{
		{"1 2 | 3 | 3 |", "0 1 2 3"},
		{"2 1 | 3 | 3 |", "0 2 1 3"},
		{"1 2 | 2 |", "0 1 2"},
		{"2 1 | 2 |", "0 1 2"},
		{"1 2 3 | 4 | 4 | 4 | 1", "0 2 3 4 1"},
		// ways that cross
		{"1 2 | 3 4 | 4 3 | |", "0 1 2 4 3"},
		{"1 2 | 4 3 | 3 4 | |", "0 1 2 3 4"},
		{"2 1 | 3 4 | 4 3 | |", "0 2 1 3 4"},
		{"1 2 | 3 4 | 3 4 | 5 | 5 |", "0 1 2 3 4 5"},
	})
}

func TestP1602Loops(t *testing.T) {
	holdRows(t, []row{
		{"1 | 0 2 | 0", "0 1 2"},
		{"1 | 2 3 | 1 |", "0 1 2 3"},
		{"1 | 3 2 | 1 |", "0 1 3 2"},
		// a loop in a loop
		{"1 | 2 5 | 3 4 | 2 | 1 |", "0 1 2 3 4 5"},
		{"1 | 2 5 | 4 3 | 2 | 1 |", "0 1 2 4 3 5"},
		{"1 | 5 2 | 3 4 | 2 | 1 |", "0 1 5 2 3 4"},
		// a loop with two ways out
		{"1 | 2 4 | 3 5 | 1 | 6 | 6 |", "0 1 2 3 5 4 6"},
		{"1 | 4 2 | 3 5 | 1 | 6 | 6 |", "0 1 4 2 3 5 6"},
		// two loops with one beginning
		{"1 | 2 3 | 1 | 1 4 |", "0 1 2 3 4"},
		{"1 | 3 2 | 1 | 1 4 |", "0 1 3 4 2"},
		// circles that can be entered at two places
		{"1 2 | 2 | 1", "0 2 1"},
		{"2 1 | 2 | 1", "0 1 2"},
		{"1 2 | 2 3 | 1 |", "0 2 1 3"},
		{"1 3 | 2 | 3 | 1 4 |", "0 3 1 2 4"},
		{"3 1 | 2 | 3 | 1 4 |", "0 1 2 3 4"},
	})
}

// TestP1602Deep: what belongs to a block is visited ahead of going on, though it stands in the outer list as well.
func TestP1602Deep(t *testing.T) {
	holdRows(t, []row{
		{"1 2 3 | 2 | 1 | 1", "0 3 1 2"},
		{"1 2 3 | | 1 | 2", "0 3 2 1"},
		{"3 2 1 | 3 | | 2", "0 1 3 2"},
		{"1 4 | 2 | 3 | 4 | 1", "0 4 1 2 3"},
		{"1 2 3 4 | 4 3 2 | 1 | 2 1 | 3 2", "0 4 2 1 3"},
	})
}
