package order_test

import (
	"slices"
	"testing"

	"quern/api"
	"quern/order"
	"quern/sample"
	"quern/unssa"
)

// visit does what P1602 says, word by word: what was visited, and what is done, in that order.
type visit struct {
	to      [][]int
	visited map[int]struct{}
	done    []int
}

func (v *visit) line() []int {
	v.visited = map[int]struct{}{}
	v.block(0)
	var line []int
	for len(v.done) > 0 {
		line = append(line, v.done[len(v.done)-1])
		v.done = v.done[:len(v.done)-1]
	}
	return line
}

func (v *visit) block(b int) {
	v.visited[b] = struct{}{}
	for _, next := range slices.Backward(v.to[b]) {
		if _, was := v.visited[next]; !was {
			v.block(next)
		}
	}
	v.done = append(v.done, b)
}

// ways tells from which block which one can be reached, by no step or by more: [from][block].
func ways(to [][]int) [][]bool {
	all := make([][]bool, len(to))
	for b := range to {
		all[b] = make([]bool, len(to))
		all[b][b] = true
		for _, next := range to[b] {
			all[b][next] = true
		}
	}
	for by := range to {
		for from := range to {
			for b := range to {
				all[from][b] = all[from][b] || all[from][by] && all[by][b]
			}
		}
	}
	return all
}

// hold asks for the line of a list in which all numbers are blocks', and holds it against P1602 and P1603.
func hold(t *testing.T, to [][]int) {
	t.Helper()
	line := order.Line(to)
	if want := (&visit{to: to}).line(); !slices.Equal(line, want) {
		t.Fatalf("P1602: Line(%v) = %v, want %v", to, line, want)
	}
	reached := ways(to)
	place := make([]int, len(to))
	for i, b := range line {
		place[b] = i + 1
	}
	count := 0
	for b, by := range reached[0] {
		if by != (place[b] > 0) {
			t.Fatalf("P1603: Line(%v) = %v: the block %d", to, line, b)
		}
		if by {
			count++
		}
	}
	if len(line) != count || line[0] != 0 {
		t.Fatalf("P1603: Line(%v) = %v: %d blocks can be reached", to, line, count)
	}
	for _, b := range line {
		for _, next := range to[b] {
			if place[next] <= place[b] && !reached[next][b] {
				t.Fatalf("P1603: Line(%v) = %v: %d leads to %d, ahead of it", to, line, b, next)
			}
		}
	}
}

// rows are all rows of up to long numbers below n.
func rows(n, long int) (all [][]int) {
	all = [][]int{nil}
	for from := 0; long > 0; long-- {
		end := len(all)
		for _, short := range all[from:end] {
			for b := range n {
				all = append(all, append(slices.Clone(short), b))
			}
		}
		from = end
	}
	return all
}

// every calls do for every list of n blocks, each of which leads where one of the choices says.
func every(n int, choices [][]int, do func(to [][]int)) {
	digits := make([]int, n)
	to := make([][]int, n)
	for {
		for b, d := range digits {
			to[b] = choices[d]
		}
		do(to)
		b := 0
		for b < n && digits[b] == len(choices)-1 {
			digits[b] = 0
			b++
		}
		if b == n {
			return
		}
		digits[b]++
	}
}

// TestAllSmall: every list of few blocks, each of which leads to any row of a few, in any order, the same one again too.
func TestAllSmall(t *testing.T) {
	for _, x := range []struct{ blocks, long int }{{1, 4}, {2, 4}, {3, 3}, {4, 2}} {
		every(x.blocks, rows(x.blocks, x.long), func(to [][]int) { hold(t, to) })
	}
}

// TestAllFive: every list of five blocks, each of which leads nowhere, to one or to two, of a few rows.
func TestAllFive(t *testing.T) {
	every(5, read("| 1 | 2 3 | 3 2 | 4 1 | 0 4 | 4 2 | 3 1"), func(to [][]int) { hold(t, to) })
}

// drawn is a list of n blocks with some exits each; near: exits lead not far.
func drawn(d *sample.Dice, n, exits, near int) [][]int {
	to := make([][]int, n)
	for b := range to {
		for range d.Below(exits + 1) {
			next := d.Below(n)
			if near > 0 {
				next = min(max(b+d.Below(2*near+1)-near+1, 0), n-1)
			}
			to[b] = append(to[b], next)
		}
	}
	return to
}

// threaded is a chain of n blocks in a drawn order, with some further exits: all of them can be reached.
func threaded(d *sample.Dice, n, more int) [][]int {
	to := make([][]int, n)
	names := []int{0}
	for i := 1; i < n; i++ {
		names = slices.Insert(names, 1+d.Below(i), i)
	}
	for i, b := range names[1:] {
		to[names[i]] = append(to[names[i]], b)
	}
	for range more {
		b := d.Below(n)
		to[b] = slices.Insert(to[b], d.Below(len(to[b])+1), d.Below(n))
	}
	return to
}

func TestDrawn(t *testing.T) {
	d := sample.Dice(88172645463325252)
	for turn := range 20000 {
		hold(t, drawn(&d, 1+d.Below(12), 1+d.Below(4), turn%4))
	}
	for turn := range 400 {
		hold(t, drawn(&d, 20+d.Below(40), 2+d.Below(3), turn%7))
	}
	for turn := range 20 {
		hold(t, threaded(&d, 120, 10+turn*30))
	}
}

// TestTurnedAbout: where a block leads to two that lead nowhere, the order of its list is theirs in the line.
func TestTurnedAbout(t *testing.T) {
	d := sample.Dice(4711)
	for range 300 {
		to := make([][]int, 2+d.Below(20))
		for b := 1; b < len(to); b++ {
			to[0] = slices.Insert(to[0], d.Below(len(to[0])+1), b)
		}
		line := order.Line(to)
		if !slices.Equal(line[1:], to[0]) {
			t.Fatalf("P1602: Line(%v) = %v", to, line)
		}
		slices.Reverse(to[0])
		slices.Reverse(line[1:])
		if is := order.Line(to); !slices.Equal(is, line) {
			t.Fatalf("P1602: Line(%v) = %v", to, is)
		}
	}
}

func ends(f api.LFunc) (to [][]int) {
	for _, b := range f.Blocks {
		to = append(to, b.Term.To)
	}
	return to
}

// TestFunctions: of the functions of LIR all blocks stand in the line.
func TestFunctions(t *testing.T) {
	d := sample.Dice(1609)
	long := 0
	for turn := range 400 {
		l := sample.DrawLIR(&d)
		if turn%2 == 0 {
			l, _ = unssa.Lower(sample.Built(sample.DrawText(&d, 4+turn%20, true)))
		}
		for _, f := range l.Funcs {
			hold(t, ends(f))
			if n := len(order.Line(ends(f))); n != len(f.Blocks) {
				t.Fatalf("P1603: %d of %d blocks", n, len(f.Blocks))
			}
			long = max(long, len(f.Blocks))
		}
	}
	if long < 10 {
		t.Errorf("no function has more than %d blocks", long)
	}
}
