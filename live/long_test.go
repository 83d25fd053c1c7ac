package live_test

import (
	"runtime/debug"
	"slices"
	"testing"

	"quern/api"
)

const many = 1_000_000

// shallow lets no call be deep until what it answers is called.
func shallow() func() {
	was := debug.SetMaxStack(1 << 18)
	return func() { debug.SetMaxStack(was) }
}

func set(r int) api.LIns { return ins(api.InsConst, r) }

func show(r int) api.LIns { return ins(api.InsPrintInt, -1, r) }

// chain is blocks that lead along a row of all of them, block 0 first; the last one ends.
func chain(row []int) []api.LBlock {
	blocks := make([]api.LBlock, len(row))
	for i, b := range row[1:] {
		blocks[row[i]].Term = jump(b)
	}
	blocks[row[len(row)-1]].Term = back(-1)
	return blocks
}

// rows are 0 with the other numbers below n behind it, in rising and in falling order.
func rows(n int) map[string][]int {
	up, down := make([]int, n), make([]int, n)
	for i := range n {
		up[i], down[i] = i, (n-i)%n
	}
	return map[string][]int{"rising": up, "falling": down}
}

// holdSets holds lists against what is wanted of each block.
func holdSets(t *testing.T, what string, lists [][]int, want func(block int) []int) {
	t.Helper()
	for b, list := range lists {
		if w := want(b); !slices.Equal(list, w) {
			t.Errorf("P1702: %s: the block %d: %.100v, want %.100v", what, b, list, w)
			return
		}
	}
}

func holdIntervals(t *testing.T, what string, list, want []api.Interval) {
	t.Helper()
	if len(list) != len(want) {
		t.Errorf("P1704: %s: %d intervals, want %d", what, len(list), len(want))
		return
	}
	for i, x := range list {
		if x != want[i] {
			t.Errorf("P1704: %s: %v at %d, want %v", what, x, i, want[i])
			return
		}
	}
}

// TestLongChains: what is set in the first block and read in the last one is live between; what is read in the first one of a circle is live all around.
func TestLongChains(t *testing.T) {
	defer shallow()()
	for name, row := range rows(many) {
		last := row[many-1]
		f := api.LFunc{Regs: 2, Params: []int{1}, Blocks: chain(row)}
		f.Blocks[0].Body = []api.LIns{set(0)}
		f.Blocks[last].Body = []api.LIns{show(0)}
		ahead, behind := liveOf(t, f)
		only := func(not int) func(b int) []int {
			return func(b int) []int {
				if b == not {
					return nil
				}
				return []int{0}
			}
		}
		holdSets(t, "a chain, "+name, ahead, only(0))
		holdSets(t, "a chain, "+name, behind, only(last))
		// The first block's instructions have the numbers 1 and 2, the last one's many + 1 and many + 2.
		holdIntervals(t, "a chain, "+name, intervalsOf(t, f, row), []api.Interval{{Reg: 1}, {Reg: 0, From: 3, To: 2 * (many + 1)}})
		turned := slices.Clone(row)
		slices.Reverse(turned)
		holdIntervals(t, "a chain turned about, "+name, intervalsOf(t, f, turned), []api.Interval{{Reg: 1}, {Reg: 0, From: 2, To: 2*many + 5}})

		f.Blocks[last] = api.LBlock{Term: branch(1, row[many/2], 0)}
		f.Blocks[0].Body = []api.LIns{show(0)}
		ahead, behind = liveOf(t, f)
		all := func(int) []int { return []int{0, 1} }
		holdSets(t, "a circle, "+name, ahead, all)
		holdSets(t, "a circle, "+name, behind, all)
		holdIntervals(t, "a circle, "+name, intervalsOf(t, f, row), []api.Interval{{Reg: 1, From: 0, To: 2*many + 3}, {Reg: 0, From: 2, To: 2*many + 3}})
	}
}

// TestManyRegistersInOneBlock: as many registers as there may be, read in falling order, or set and then read.
func TestManyRegistersInOneBlock(t *testing.T) {
	const n = api.MaxRegs
	f := api.LFunc{Regs: n, Blocks: []api.LBlock{{Term: jump(0)}}}
	var all []int
	var want []api.Interval
	for r := range n {
		f.Blocks[0].Body = append(f.Blocks[0].Body, show(n-1-r))
		all = append(all, r)
		want = append(want, api.Interval{Reg: r, From: 2, To: 2*(n+1) + 1})
	}
	ahead, behind := liveOf(t, f)
	holdSets(t, "a circle", ahead, func(int) []int { return all })
	holdSets(t, "a circle", behind, func(int) []int { return all })
	holdIntervals(t, "a circle", intervalsOf(t, f, []int{0}), want)

	f.Blocks[0].Term = back(-1)
	ahead, behind = liveOf(t, f)
	holdSets(t, "read", ahead, func(int) []int { return all })
	holdSets(t, "read", behind, func(int) []int { return nil })
	for r := range want {
		want[r].To = 2 * (n - r)
	}
	holdIntervals(t, "read", intervalsOf(t, f, []int{0}), want)

	for r := range n {
		f.Blocks[0].Body[r] = set(r)
		f.Blocks[0].Body = append(f.Blocks[0].Body, show(r))
		want[r] = api.Interval{Reg: r, From: 2*r + 3, To: 2 * (n + r + 1)}
	}
	ahead, behind = liveOf(t, f)
	holdSets(t, "set and read", ahead, func(int) []int { return nil })
	holdSets(t, "set and read", behind, func(int) []int { return nil })
	holdIntervals(t, "set and read", intervalsOf(t, f, []int{0}), want)
}

// TestManyRegistersAndBlocks: as many registers as there may be and as many blocks: each register is set in a block and read in the next one.
func TestManyRegistersAndBlocks(t *testing.T) {
	const n = api.MaxRegs
	for name, row := range rows(n) {
		f := api.LFunc{Regs: n, Blocks: chain(row)}
		at := make([]int, n) // where each block stands in the row
		for i, b := range row {
			at[b] = i
			f.Blocks[b].Body = []api.LIns{set(i)}
			if i > 0 {
				f.Blocks[b].Body = append(f.Blocks[b].Body, show(i-1))
			}
		}
		ahead, behind := liveOf(t, f)
		holdSets(t, name, ahead, func(b int) []int {
			if b == 0 {
				return nil
			}
			return []int{at[b] - 1}
		})
		holdSets(t, name, behind, func(b int) []int {
			if at[b] == n-1 {
				return nil
			}
			return []int{at[b]}
		})
		// Block 0 has the numbers 1 and 2, the i-th one 3i, 3i + 1 and 3i + 2.
		want := []api.Interval{{Reg: 0, From: 3, To: 2 * 4}}
		for r := 1; r < n-1; r++ {
			want = append(want, api.Interval{Reg: r, From: 6*r + 1, To: 6*(r+1) + 2})
		}
		want = append(want, api.Interval{Reg: n - 1, From: 6*(n-1) + 1, To: 6*(n-1) + 1})
		holdIntervals(t, name, intervalsOf(t, f, row), want)
	}
}

// TestManyLiveEverywhere: many registers, all set in the first block and read in the last one, with many blocks between.
func TestManyLiveEverywhere(t *testing.T) {
	const n = 2000
	for name, row := range rows(n) {
		f := api.LFunc{Regs: n, Blocks: chain(row)}
		var all []int
		var want []api.Interval
		for r := range n {
			f.Blocks[0].Body = append(f.Blocks[0].Body, set(r))
			f.Blocks[row[n-1]].Body = append(f.Blocks[row[n-1]].Body, show(n-1-r))
			all = append(all, r)
			want = append(want, api.Interval{Reg: r, From: 2*r + 3, To: 2 * (n + (n - 1) + n - r)})
		}
		ahead, behind := liveOf(t, f)
		holdSets(t, name, ahead, func(b int) []int {
			if b == 0 {
				return nil
			}
			return all
		})
		holdSets(t, name, behind, func(b int) []int {
			if b == row[n-1] {
				return nil
			}
			return all
		})
		holdIntervals(t, name, intervalsOf(t, f, row), want)
	}
}

// TestManyReadOnTheWay: each block of a chain reads a register of its own, which is live from the beginning on.
func TestManyReadOnTheWay(t *testing.T) {
	const n = 20000
	for name, row := range rows(n) {
		f := api.LFunc{Regs: n, Blocks: chain(row)}
		var want []api.Interval
		for i, b := range row {
			f.Blocks[b].Body = []api.LIns{show(i)}
			want = append(want, api.Interval{Reg: i, From: 2, To: 4*i + 2})
		}
		holdIntervals(t, name, intervalsOf(t, f, row), want)
	}
}

// TestManyForks: each of very many forks reads one register on either way; all of them are live from the beginning on.
func TestManyForks(t *testing.T) {
	const n = 3000
	f := api.LFunc{Regs: 2*n + 1, Blocks: make([]api.LBlock, 3*n+1)}
	want := []api.Interval{}
	for i := range n {
		f.Blocks[3*i] = api.LBlock{Term: branch(2*n, 3*i+1, 3*i+2)}
		f.Blocks[3*i+1] = api.LBlock{Body: []api.LIns{show(2 * i)}, Term: jump(3*i + 3)}
		f.Blocks[3*i+2] = api.LBlock{Body: []api.LIns{show(2*i + 1)}, Term: jump(3*i + 3)}
		// The fork has the number 5i + 1, its ways 5i + 2 and 5i + 4. The first one's register is not live on the second.
		want = append(want, api.Interval{Reg: 2 * i, From: 2, To: 2 * (5*i + 2)}, api.Interval{Reg: 2*i + 1, From: 2, To: 2 * (5*i + 4)})
	}
	f.Blocks[3*n].Term = back(-1)
	want = append(want, api.Interval{Reg: 2 * n, From: 2, To: 2 * (5*(n-1) + 1)})
	holdIntervals(t, "forks", intervalsOf(t, f, inOrder(f)), want)
	ahead, behind := liveOf(t, f)
	for i := range n {
		rest := 2 * (n - i) // registers of this fork and of those behind it
		if b := 3 * i; len(ahead[b]) != rest+1 || len(behind[b]) != rest+min(1, n-1-i) || len(ahead[b+1]) != rest-1+min(1, n-1-i) || ahead[b+1][0] != 2*i || ahead[b+2][0] != 2*i+1 {
			t.Fatalf("P1702: the fork %d: %d, %d, %d", i, len(ahead[b]), len(behind[b]), len(ahead[b+1]))
		}
	}
}

// TestDeepLoops: loops in loops, very deep; what the outermost one's head reads is live everywhere in them.
func TestDeepLoops(t *testing.T) {
	defer shallow()()
	const n = 50000
	f := api.LFunc{Regs: 2, Blocks: make([]api.LBlock, 2*n+1)}
	for i := range n { // the head of the loop i, and the block that leads back to it
		f.Blocks[i].Term = branch(1, i+1, 2*n-i)
		f.Blocks[2*n-1-i].Term = jump(i)
	}
	f.Blocks[2*n].Term = back(-1)
	f.Blocks[0].Body = []api.LIns{show(0)}
	ahead, behind := liveOf(t, f)
	want := func(b int) []int {
		if b == 2*n {
			return nil
		}
		return []int{0, 1}
	}
	holdSets(t, "loops in loops", ahead, want)
	holdSets(t, "loops in loops", behind, want)
	holdIntervals(t, "loops in loops", intervalsOf(t, f, inOrder(f)), []api.Interval{{Reg: 0, From: 2, To: 2*(2*n+1) + 1}, {Reg: 1, From: 2, To: 2*(2*n+1) + 1}})
}

// TestManyToOne: very many blocks, most of which can't be reached, lead to one.
func TestManyToOne(t *testing.T) {
	const n = 300000
	f := api.LFunc{Regs: api.MaxRegs}
	for b := range n {
		f.Blocks = append(f.Blocks, api.LBlock{Body: []api.LIns{set(b % 3)}, Term: jump(n)})
	}
	f.Blocks = append(f.Blocks, api.LBlock{Body: []api.LIns{show(1), show(2), show(api.MaxRegs - 1)}, Term: crash(0)})
	ahead, behind := liveOf(t, f)
	holdSets(t, "many to one", ahead, func(b int) []int {
		list := []int{0, 1, 2, api.MaxRegs - 1}
		if b == n {
			return list
		}
		return slices.Delete(list, b%3, b%3+1)
	})
	holdSets(t, "many to one", behind, func(b int) []int {
		if b == n {
			return nil
		}
		return []int{0, 1, 2, api.MaxRegs - 1}
	})
	end := 2*n + 1 // the number of the last block's first instruction
	holdIntervals(t, "many to one", intervalsOf(t, f, inOrder(f)), []api.Interval{
		{Reg: 1, From: 2, To: 2 * end}, {Reg: 2, From: 2, To: 2 * (end + 1)}, {Reg: api.MaxRegs - 1, From: 2, To: 2 * (end + 2)}, {Reg: 0, From: 3, To: 2 * (end + 3)},
	})
}

// TestManyInstructions: one block of very many instructions over few registers.
func TestManyInstructions(t *testing.T) {
	f := api.LFunc{Regs: 3, Params: []int{2}, Result: api.TypeInt, Blocks: []api.LBlock{{Term: back(0)}}}
	for range many {
		f.Blocks[0].Body = append(f.Blocks[0].Body, ins(api.InsAdd, 0, 0, 1))
	}
	ahead, behind := liveOf(t, f)
	holdSets(t, "many instructions", ahead, func(int) []int { return []int{0, 1} })
	holdSets(t, "many instructions", behind, func(int) []int { return nil })
	holdIntervals(t, "many instructions", intervalsOf(t, f, []int{0}), []api.Interval{{Reg: 2}, {Reg: 0, From: 2, To: 2 * (many + 1)}, {Reg: 1, From: 2, To: 2 * many}})
}

// TestManyFunctionsOfManyRegisters: a call takes time for the registers that a function names alone.
func TestManyFunctionsOfManyRegisters(t *testing.T) {
	f := api.LFunc{Regs: api.MaxRegs, Blocks: []api.LBlock{{Body: []api.LIns{set(0), show(api.MaxRegs - 1)}, Term: back(-1)}}}
	for range 100000 {
		ahead, _ := liveOf(t, f)
		if list := intervalsOf(t, f, []int{0}); len(list) != 2 || len(ahead[0]) != 1 {
			t.Fatalf("%v, %v", ahead, list)
		}
	}
}

// TestEachBit: of very many registers any one may be live alone, in few blocks and in many.
func TestEachBit(t *testing.T) {
	const n = 600
	for r := range n {
		f := api.LFunc{Regs: n, Blocks: chain([]int{0, 1, 2, 3})}
		for i := range n {
			f.Blocks[1].Body = append(f.Blocks[1].Body, set(i))
			if i != r {
				f.Blocks[3].Body = append(f.Blocks[3].Body, set(i))
			}
			f.Blocks[3].Body = append(f.Blocks[3].Body, show(i))
		}
		f.Blocks[2].Body = []api.LIns{show(n - 1 - r)}
		ahead, behind := liveOf(t, f)
		both := slices.Compact(slices.Sorted(slices.Values([]int{r, n - 1 - r})))
		if !slices.Equal(ahead[3], []int{r}) || !slices.Equal(behind[2], []int{r}) || !slices.Equal(ahead[2], both) || !slices.Equal(behind[1], both) || len(ahead[1])+len(behind[0])+len(ahead[0])+len(behind[3]) > 0 {
			t.Fatalf("P1702: r%d: %v, %v", r, ahead, behind)
		}
	}
}
