package live_test

import (
	"math"
	"slices"
	"testing"

	"quern/api"
	"quern/live"
)

// holdLine asks for Intervals in a line that is none.
func holdLine(t *testing.T, f api.LFunc, line []int) {
	t.Helper()
	if list, e := live.Intervals(f, line); e != api.ErrLine || list != nil {
		t.Errorf("P1704: in the line %v: %v, %v", line, e, list)
	}
}

// TestP1704AllLines: all rows of up to five numbers, from -1 to one past the last of four blocks.
func TestP1704AllLines(t *testing.T) {
	f := base()
	rows, good := [][]int{nil}, 0
	for range 6 {
		var longer [][]int
		for _, line := range rows {
			if slices.Equal(slices.Sorted(slices.Values(line)), []int{0, 1, 2, 3}) {
				hold(t, f, line)
				good++
			} else {
				holdLine(t, f, line)
			}
			for b := -1; b <= 4; b++ {
				longer = append(longer, append(slices.Clone(line), b))
			}
		}
		rows = longer
	}
	if good != 24 {
		t.Errorf("%d lines", good)
	}
}

func TestP1704WrongLines(t *testing.T) {
	one := first("f()\n0: return")
	hold(t, one, []int{0})
	for _, line := range [][]int{nil, {}, {1}, {-1}, {0, 0}, {0, 1}, {1, 0}, {math.MinInt}, {math.MaxInt}, {1 << 32}, {-1 << 32}, {0, math.MaxInt}, {64}, {-64}} {
		holdLine(t, one, line)
	}
	// one wrong number at any place of a long line
	var f api.LFunc
	const n = 200
	for range n {
		f.Blocks = append(f.Blocks, api.LBlock{Term: back(-1)})
	}
	line := inOrder(f)
	intervalsOf(t, f, line)
	for i := range line {
		for _, wrong := range []int{-1, n, (i + 1) % n, (i + 64) % n, math.MinInt, math.MaxInt, i - 64*1000, i + 64*1000} {
			line[i] = wrong
			holdLine(t, f, line)
		}
		line[i] = i
		holdLine(t, f, slices.Delete(slices.Clone(line), i, i+1))
		holdLine(t, f, slices.Insert(slices.Clone(line), i, i))
	}
	holdLine(t, f, append(slices.Clone(line), line...))
	holdLine(t, f, make([]int, n))
	holdLine(t, f, make([]int, 1<<20))
	slices.Reverse(line)
	intervalsOf(t, f, line)
}

// TestP1704Places: the first and the last instruction and the Term of each block of a line have the places that their numbers tell.
func TestP1704Places(t *testing.T) {
	// Each instruction sets a register of its own, each Term of a branch reads one.
	var f api.LFunc
	bodies := []int{3, 0, 1, 0, 0, 5, 2}
	for b, n := range bodies {
		var block api.LBlock
		for range n {
			block.Body = append(block.Body, api.LIns{Op: api.InsConst, Dst: f.Regs})
			f.Regs++
		}
		block.Term = branch(f.Regs, (b+1)%len(bodies), 0)
		f.Regs++
		f.Blocks = append(f.Blocks, block)
	}
	for _, line := range [][]int{{0, 1, 2, 3, 4, 5, 6}, {6, 5, 4, 3, 2, 1, 0}, {3, 0, 6, 1, 5, 2, 4}} {
		list := intervalsOf(t, f, line)
		byReg := make([]api.Interval, f.Regs)
		for _, x := range list {
			byReg[x.Reg] = x
		}
		last := 2 * f.Regs // the last Term reads there
		k := 1
		for _, b := range line {
			for _, x := range f.Blocks[b].Body {
				if want := (api.Interval{Reg: x.Dst, From: 2*k + 1, To: 2*k + 1}); byReg[x.Dst] != want {
					t.Errorf("P1703: in the line %v: %v, want %v", line, byReg[x.Dst], want)
				}
				k++
			}
			// All blocks lead to all: what a Term reads is live everywhere.
			if r := f.Blocks[b].Term.Value; byReg[r] != (api.Interval{Reg: r, From: 2, To: last + 1}) {
				t.Errorf("P1703: in the line %v: %v", line, byReg[r])
			}
			k++
		}
		hold(t, f, line)
	}
}
