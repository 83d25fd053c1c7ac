package order_test

import (
	"slices"
	"sync"
	"testing"

	"quern/order"
	"quern/sample"
)

// roomy is the lists of a text, with spare room behind them and behind each of them, in which other numbers stand.
func roomy(text string) [][]int {
	var all [][]int
	for b, next := range read(text) {
		list := append(slices.Clone(next), 70+b, 1, -7)
		all = append(all, list[:len(next)])
	}
	n := len(all)
	all = append(all, []int{0, 1}, []int{n}, nil)
	return all[:n]
}

// flat tells all that is in a list, its spare room too.
func flat(to [][]int) (all []int) {
	for _, list := range to[:cap(to)] {
		all = append(all, len(list), cap(list))
		all = append(all, list[:cap(list)]...)
	}
	return all
}

// texts are some that have a line and, behind them, some that have none.
func texts() []string {
	return []string{
		"", "0 0", "1 2 | 3 0 | 3 2 | | 3", "1 | 2 3 | 4 1 | | 3", "2 1 2 | 2 0 | 1 1", "5 | 0 | 1 | 2 | 3 | 4",
		"1", "-1", "1 2 | 3 0 | 3 2 | | 5", "1 | 2 | 3 | 0 -1",
	}
}

func TestP1604NotChanged(t *testing.T) {
	for _, text := range texts() {
		to := roomy(text)
		was := flat(to)
		order.Line(to)
		if !slices.Equal(flat(to), was) {
			t.Errorf("P1604: %s became %v", text, flat(to))
		}
	}
	none := append(make([][]int, 0, 2), []int{5, 6})[:0]
	if order.Line(none); len(none[:1][0]) != 2 {
		t.Errorf("P1604: no block, but spare room that was changed")
	}
}

// TestP1604SpareRoom: what stands in spare room counts for nothing.
func TestP1604SpareRoom(t *testing.T) {
	for _, text := range texts() {
		if is, want := order.Line(roomy(text)), order.Line(read(text)); !slices.Equal(is, want) {
			t.Errorf("P1604: %s: %v with spare room, else %v", text, is, want)
		}
	}
	if is := order.Line(roomy("0")[:0]); len(is) != 0 {
		t.Errorf("P1601: of no block with spare room: %v", is)
	}
}

// TestP1604NewMemory: what is done with an answer, its spare room too, is seen neither in the list nor in another answer; nor what is done with the list afterwards.
func TestP1604NewMemory(t *testing.T) {
	for _, text := range texts() {
		to := roomy(text)
		was := flat(to)
		first, second := order.Line(to), order.Line(to)
		want := slices.Clone(second)
		spare := first[:cap(first)]
		for i := range spare {
			spare[i] = 77
		}
		if !slices.Equal(flat(to), was) || !slices.Equal(second, want) {
			t.Errorf("P1604: %s: an answer is not new memory", text)
		}
		for _, list := range to {
			clear(list[:cap(list)])
		}
		clear(to[:cap(to)])
		if !slices.Equal(second, want) {
			t.Errorf("P1604: %s: an answer changed with the list", text)
		}
		if is := order.Line(read(text)); !slices.Equal(is, want) {
			t.Errorf("P1604: %s: %v, and then %v", text, want, is)
		}
	}
}

// TestP1604Grown: two answers that grow don't write into each other, or into the list.
func TestP1604Grown(t *testing.T) {
	to := roomy("3 1 | | | 1 2 | 0")
	was := flat(to)
	a, b := order.Line(to), order.Line(to)
	a = append(a, 11, 12, 13, 14, 15, 16)
	b = append(b, 21, 22, 23, 24, 25, 26)
	if !slices.Equal(a, []int{0, 3, 2, 1, 11, 12, 13, 14, 15, 16}) || !slices.Equal(b, []int{0, 3, 2, 1, 21, 22, 23, 24, 25, 26}) {
		t.Errorf("P1604: grown: %v; %v", a, b)
	}
	if !slices.Equal(flat(to), was) {
		t.Errorf("P1604: the list: %v", flat(to))
	}
}

// TestP1604OtherBlocks: calls over the same memory, with other blocks each time.
func TestP1604OtherBlocks(t *testing.T) {
	to := read("1 2 | 3 3 | 3 3 | 0 0")
	for _, x := range []row{
		{"1 2 | 3 3 | 3 3 | 0 0", "0 1 2 3"},
		{"2 1 | 3 3 | 3 3 | 0 0", "0 2 1 3"},
		{"3 3 | 2 1 | 1 2 | 3 2", "0 3 2 1"},
		{"0 0 | 1 1 | 2 2 | 3 3", "0"},
		{"1 4 | 0 0 | 0 0 | 0 0", ""},
		{"1 2 | 3 3 | 3 3 | 0 0", "0 1 2 3"},
	} {
		for b, list := range read(x.to) {
			copy(to[b], list)
		}
		if is := order.Line(to); !slices.Equal(is, numbers(x.line)) {
			t.Errorf("P1604: %s: %v, want %s", x.to, is, x.line)
		}
	}
	for n, line := range []string{"", "", "", "", "0 1 2 3"} {
		if is := order.Line(to[:n]); !slices.Equal(is, numbers(line)) {
			t.Errorf("P1604: of the first %d: %v", n, is)
		}
	}
}

// TestP1604OneMemory: the lists may be pieces of one another, and of an answer.
func TestP1604OneMemory(t *testing.T) {
	all := []int{3, 1, 2, 0}
	to := [][]int{all[:2], all[1:3], all, all[2:]}
	for range 3 {
		hold(t, to)
		if !slices.Equal(all, []int{3, 1, 2, 0}) {
			t.Fatalf("P1604: %v", all)
		}
	}
	line := order.Line(to)
	want := slices.Clone(line)
	for range 3 {
		if is := order.Line([][]int{line, nil, nil, nil}); !slices.Equal(is, want) || !slices.Equal(line, want) {
			t.Fatalf("P1604: of a star as %v: %v", line, is)
		}
	}
}

// TestSameAgain asks for one line many times, several at once, with others between.
func TestSameAgain(t *testing.T) {
	d := sample.Dice(2718281828)
	for range 60 {
		to, other := threaded(&d, 60, 90), drawn(&d, 40, 3, 0)
		want := order.Line(to)
		told := make([][]int, 16)
		var waiting sync.WaitGroup
		for i := range told {
			waiting.Go(func() {
				order.Line(other)
				told[i] = order.Line(to)
			})
		}
		waiting.Wait()
		for _, is := range told {
			if !slices.Equal(is, want) {
				t.Fatalf("DOC.md, 4: Line(%v) = %v, want %v", to, is, want)
			}
		}
	}
}
