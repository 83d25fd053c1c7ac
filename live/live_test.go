package live_test

import (
	"slices"
	"strconv"
	"strings"
	"testing"

	"quern/api"
	"quern/live"
	"quern/sample"
)

// example is the function g of the chapter's examples.
const example = `g(r0, r1) regs 4
	0: r2 const 0; jump 1
	1: print r2; r3 lt r2 r0; branch r3 1 2
	2: r2 const 5; return`

// first is the first function of a text.
func first(text string) api.LFunc { return sample.LIR(text).Funcs[0] }

func numbers(text string) (list []int) {
	for word := range strings.FieldsSeq(text) {
		n, err := strconv.Atoi(word)
		if err != nil {
			panic(err)
		}
		list = append(list, n)
	}
	return list
}

// tellLists tells lists as "0 | 0 2 |".
func tellLists(lists [][]int) string {
	var parts []string
	for _, list := range lists {
		var words []string
		for _, n := range list {
			words = append(words, strconv.Itoa(n))
		}
		parts = append(parts, strings.Join(words, " "))
	}
	return strings.TrimSpace(strings.Join(parts, " | "))
}

// tellIntervals tells intervals as "r0 0-11, r1 0-0".
func tellIntervals(list []api.Interval) string {
	var parts []string
	for _, x := range list {
		parts = append(parts, "r"+strconv.Itoa(x.Reg)+" "+strconv.Itoa(x.From)+"-"+strconv.Itoa(x.To))
	}
	return strings.Join(parts, ", ")
}

// liveOf is Live of a formed function.
func liveOf(t testing.TB, f api.LFunc) (ahead, behind [][]int) {
	t.Helper()
	ahead, behind, e := live.Live(f)
	if e != api.OK || len(ahead) != len(f.Blocks) || len(behind) != len(f.Blocks) {
		t.Fatalf("P1702: Live: %v, %d and %d entries of %d blocks", e, len(ahead), len(behind), len(f.Blocks))
	}
	return ahead, behind
}

// intervalsOf is Intervals of a formed function in a line of its blocks.
func intervalsOf(t testing.TB, f api.LFunc, line []int) []api.Interval {
	t.Helper()
	list, e := live.Intervals(f, line)
	if e != api.OK {
		t.Fatalf("P1704: Intervals: %v", e)
	}
	return list
}

func TestExamples(t *testing.T) {
	g := first(example)
	ahead, behind, e := live.Live(g)
	if e != api.OK || tellLists(ahead) != "0 | 0 2 |" || tellLists(behind) != "0 2 | 0 2 |" || len(ahead) != 3 || len(behind) != 3 {
		t.Errorf("Live(g): %v; %v %v", ahead, behind, e)
	}
	for _, x := range []struct {
		line, want string
		why        api.Errno
	}{
		{"0 1 2", "r0 0-11, r1 0-0, r2 3-13, r3 9-10", api.OK},
		{"0 2 1", "r0 0-15, r1 0-0, r2 3-15, r3 13-14", api.OK},
		{"0 1", "", api.ErrLine},
		{"0 1 1", "", api.ErrLine},
		{"0 1 3", "", api.ErrLine},
		{"", "", api.ErrLine},
	} {
		if list, e := live.Intervals(g, numbers(x.line)); e != x.why || tellIntervals(list) != x.want {
			t.Errorf("Intervals(g, %s): %s %v", x.line, tellIntervals(list), e)
		}
	}
	g.Regs = 3
	if ahead, behind, e := live.Live(g); e != api.ErrLIRForm || ahead != nil || behind != nil {
		t.Errorf("Live of g with Regs 3: %v", e)
	}
}

// row is a function, and what is live ahead of its blocks and behind them.
type row struct{ text, ahead, behind string }

func holdRows(t *testing.T, rows []row) {
	t.Helper()
	for _, x := range rows {
		f := first(x.text)
		ahead, behind := liveOf(t, f)
		if tellLists(ahead) != x.ahead || tellLists(behind) != x.behind {
			t.Errorf("P1702: %s\nahead %s, want %s\nbehind %s, want %s", x.text, tellLists(ahead), x.ahead, tellLists(behind), x.behind)
		}
		hold(t, f)
	}
}

func TestP1702OneBlock(t *testing.T) {
	holdRows(t, []row{
		{"f()\n0: return", "", ""},
		{"f() regs 9\n0: return", "", ""},
		{"f(r0, r1)\n0: return", "", ""},
		// read and never set, set and never read, neither
		{"f()\n0: print r0; return", "0", ""},
		{"f()\n0: r0 const 1; return", "", ""},
		{"f() regs 3\n0: r0 const 1; print r2; return", "2", ""},
		// what comes first
		{"f()\n0: r0 const 1; print r0; return", "", ""},
		{"f()\n0: print r0; r0 const 1; return", "0", ""},
		{"f()\n0: r0 const 1; print r0; r0 const 2; print r0; return", "", ""},
		// by one instruction
		{"f()\n0: r0 neg r0; return", "0", ""},
		{"f()\n0: r0 move r0; return", "0", ""},
		{"f()\n0: r1 add r0 r0; return", "0", ""},
		{"f()\n0: r0 add r0 r0; return", "0", ""},
		{"f()\n0: r0 add r1 r0; return", "0 1", ""},
		{"f()\n0: r0 const 1; r0 neg r0; return", "", ""},
		// each Arg of each place
		{"f()\n0: store r2 r0 r1; return", "0 1 2", ""},
		{"f()\n0: r0 const 1; store r2 r0 r1; return", "1 2", ""},
		{"f()\n0: r3 load r1 r2; return", "1 2", ""},
		{"f()\n0: trapbound 2 r4 r1; return", "1 4", ""},
		{"f()\n0: trapzero 1 r4; trapneg 3 r2; return", "2 4", ""},
		{"f()\n0: printbool r3; r3 not r3; r2 input; r1 len r2; r0 alloc r1; return", "3", ""},
		// calls
		{"f()\n0: call f; return", "", ""},
		{"f()\n0: call f r7 r6 r5 r4 r3 r2 r1 r0; return", "0 1 2 3 4 5 6 7", ""},
		{"f()\n0: r8 call f r0 r1 r2 r3 r4 r5 r6 r7; return", "0 1 2 3 4 5 6 7", ""},
		{"f()\n0: r4 call f r0 r1 r2 r3 r4 r5 r6 r7; print r4; return", "0 1 2 3 4 5 6 7", ""},
		{"f()\n0: r4 const 1; r4 call f r0 r0 r4 r4 r0 r2; print r4; return", "0 2", ""},
		// ends
		{"f() int\n0: return r0", "0", ""},
		{"f() bool\n0: r0 const 1; return r0", "", ""},
		{"f() ints\n0: r1 const 1; return r0", "0", ""},
		{"f()\n0: panic r0", "0", ""},
		{"f() int\n0: panic r0", "0", ""},
		{"f()\n0: r0 const 1; panic r0", "", ""},
		{"f()\n0: jump 0", "", ""},
		{"f()\n0: branch r0 0 0", "0", "0"},
		{"f()\n0: r0 const 1; branch r0 0 0", "", ""},
		{"f()\n0: print r0; r0 const 1; jump 0", "0", "0"},
		{"f()\n0: r0 const 1; print r1; jump 0", "1", "1"},
		// Params are as others
		{"f(r0)\n0: print r0; return", "0", ""},
		{"f(r0)\n0: r0 const 1; print r0; return", "", ""},
		{"f(r1, r0)\n0: r1 add r1 r0; jump 0", "0 1", "0 1"},
	})
}

func TestP1702Ways(t *testing.T) {
	holdRows(t, []row{
		// blocks without instructions
		{"f()\n0: jump 1\n1: jump 2\n2: return", "|  |", "|  |"},
		{"f()\n0: jump 1\n1: jump 2\n2: panic r3", "3 | 3 | 3", "3 | 3 |"},
		{"f()\n0: branch r0 1 2\n1: branch r1 2 2\n2: branch r2 0 0", "0 1 2 | 0 1 2 | 0 1 2", "0 1 2 | 0 1 2 | 0 1 2"},
		// both ways lead to one block
		{"f()\n0: branch r0 1 1\n1: print r1; return", "0 1 | 1", "1 |"},
		{"f()\n0: r1 const 1; branch r1 1 1\n1: print r1; return", "| 1", "1 |"},
		// on one of two ways alone
		{"f()\n0: branch r0 1 2\n1: print r1; return\n2: return", "0 1 | 1 |", "1 |  |"},
		{"f()\n0: branch r0 2 1\n1: print r1; return\n2: return", "0 1 | 1 |", "1 |  |"},
		{"f()\n0: branch r0 1 2\n1: print r1; return\n2: print r2; return", "0 1 2 | 1 | 2", "1 2 |  |"},
		{"f()\n0: branch r0 1 2\n1: r1 const 1; jump 3\n2: jump 3\n3: print r1; return", "0 1 |  | 1 | 1", "1 | 1 | 1 |"},
		{"f()\n0: branch r0 1 2\n1: r1 const 1; jump 3\n2: r1 const 2; jump 3\n3: print r1; return", "0 |  |  | 1", "| 1 | 1 |"},
		{"f()\n0: branch r0 1 2\n1: print r1; r1 const 1; jump 3\n2: r1 const 2; jump 3\n3: print r1; return", "0 1 | 1 |  | 1", "1 | 1 | 1 |"},
		{"f()\n0: r1 const 1; branch r0 1 2\n1: panic r0\n2: print r1; return", "0 | 0 | 1", "0 1 |  |"},
		// set anew on the way
		{"f()\n0: r0 const 1; jump 1\n1: r0 const 2; jump 2\n2: print r0; return", "|  | 0", "| 0 |"},
		{"f()\n0: r0 const 1; jump 1\n1: r0 neg r0; jump 2\n2: print r0; return", "| 0 | 0", "0 | 0 |"},
		{"f()\n0: r0 const 1; jump 1\n1: print r0; r0 const 2; jump 2\n2: print r0; return", "| 0 | 0", "0 | 0 |"},
		// Params in the last block alone, and those that nobody reads
		{"f(r2, r0, r1)\n0: jump 1\n1: jump 2\n2: print r2; return", "2 | 2 | 2", "2 | 2 |"},
		{"f(r0, r1)\n0: jump 1\n1: r0 const 1; jump 2\n2: print r0; return", "|  | 0", "| 0 |"},
		// a return of a value
		{"f(r0) int\n0: branch r0 1 2\n1: return r0\n2: return r1", "0 1 | 0 | 1", "0 1 |  |"},
		// falling numbers
		{"f()\n0: r0 const 1; jump 3\n1: print r0; return\n2: jump 1\n3: jump 2", "| 0 | 0 | 0", "0 |  | 0 | 0"},
	})
}

func TestP1702Loops(t *testing.T) {
	holdRows(t, []row{
		{example, "0 | 0 2 |", "0 2 | 0 2 |"},
		{"f()\n0: print r0; jump 1\n1: jump 0", "0 | 0", "0 | 0"},
		{"f()\n0: print r0; jump 1\n1: r0 const 1; jump 0", "0 |", "| 0"},
		{"f()\n0: r0 const 1; jump 1\n1: print r0; jump 0", "| 0", "0 |"},
		// live around the loop, and set in it
		{"f(r0)\n0: r1 const 0; jump 1\n1: branch r0 2 3\n2: r1 add r1 r0; r0 input; jump 1\n3: print r1; return", "0 | 0 1 | 0 1 | 1", "0 1 | 0 1 | 0 1 |"},
		// set in it, read behind it
		{"f(r0)\n0: jump 1\n1: branch r0 2 3\n2: r1 const 1; jump 1\n3: print r1; return", "0 1 | 0 1 | 0 | 1", "0 1 | 0 1 | 0 1 |"},
		// read in it ahead of being set in it
		{"f(r0)\n0: r1 const 1; jump 1\n1: branch r0 2 3\n2: print r1; r1 const 1; jump 1\n3: return", "0 | 0 1 | 0 1 |", "0 1 | 0 1 | 0 1 |"},
		// set in it and read in it behind that: not live around it
		{"f(r0)\n0: r1 const 1; jump 1\n1: branch r0 2 3\n2: r1 const 1; print r1; jump 1\n3: return", "0 | 0 | 0 |", "0 | 0 | 0 |"},
		// loops in loops: 1 the outer one's head, 2 the inner one's, 3 the inner body, 4 the outer one's end
		{"f(r0, r1)\n0: r2 const 0; jump 1\n1: branch r0 2 5\n2: branch r1 3 4\n3: r1 input; jump 2\n4: r0 input; jump 1\n5: print r2; return",
			"0 1 | 0 1 2 | 1 2 | 2 | 1 2 | 2", "0 1 2 | 1 2 | 1 2 | 1 2 | 0 1 2 |"},
		{"f(r0, r1)\n0: r2 const 0; jump 1\n1: print r2; branch r0 2 5\n2: branch r1 3 4\n3: r2 neg r1; jump 2\n4: jump 1\n5: return",
			"0 1 | 0 1 2 | 0 1 2 | 0 1 | 0 1 2 |", "0 1 2 | 0 1 2 | 0 1 2 | 0 1 2 | 0 1 2 |"},
		// entered at two places
		{"f(r0)\n0: branch r0 1 2\n1: print r1; jump 2\n2: r1 const 1; branch r0 1 3\n3: return", "0 1 | 0 1 | 0 |", "0 1 | 0 | 0 1 |"},
		{"f(r0)\n0: branch r0 1 2\n1: print r1; branch r0 2 3\n2: print r2; branch r0 1 3\n3: print r3; return", "0 1 2 3 | 0 1 2 3 | 0 1 2 3 | 3", "0 1 2 3 | 0 1 2 3 | 0 1 2 3 |"},
		// a loop that is never left
		{"f(r0)\n0: print r1; jump 1\n1: print r0; jump 1", "0 1 | 0", "0 | 0"},
		{"f(r0)\n0: print r1; jump 1\n1: r2 const 1; jump 1", "1 |", "|"},
	})
}

// TestP1702NotReached: blocks that can't be reached are as others.
func TestP1702NotReached(t *testing.T) {
	holdRows(t, []row{
		{"f()\n0: return\n1: print r0; return", "| 0", "|"},
		{"f()\n0: return\n1: print r0; jump 1", "| 0", "| 0"},
		{"f()\n0: print r0; return\n1: jump 0", "0 | 0", "| 0"},
		{"f()\n0: print r0; return\n1: r0 const 1; jump 0", "0 |", "| 0"},
		{"f()\n0: print r0; return\n1: branch r1 0 2\n2: r1 const 1; jump 1", "0 | 0 1 | 0", "| 0 | 0 1"},
		{"f(r0)\n0: jump 3\n1: jump 2\n2: print r1; jump 1\n3: print r0; return", "0 | 1 | 1 | 0", "0 | 1 | 1 |"},
		{"f()\n0: jump 0\n1: jump 0\n2: branch r0 1 0", "|  | 0", "|  |"},
	})
}

func TestP1704Rows(t *testing.T) {
	for _, x := range []struct{ text, line, want string }{
		// one block: a Term alone reads at 2 and sets at 3
		{"f()\n0: return", "0", ""},
		{"f() regs 7\n0: return", "0", ""},
		{"f()\n0: panic r0", "0", "r0 2-2"},
		{"f() int\n0: return r3", "0", "r3 2-2"},
		{"f()\n0: branch r0 0 0", "0", "r0 2-3"},
		{"f()\n0: jump 0", "0", ""},
		// Params
		{"f(r0)\n0: return", "0", "r0 0-0"},
		{"f(r7, r3, r5)\n0: return", "0", "r3 0-0, r5 0-0, r7 0-0"},
		{"f(r1, r0)\n0: print r1; return", "0", "r0 0-0, r1 0-2"},
		{"f(r0)\n0: panic r0", "0", "r0 0-2"},
		{"f(r0)\n0: r0 const 1; return", "0", "r0 0-3"},
		{"f(r0)\n0: r1 const 1; r0 const 1; print r0; return", "0", "r0 0-6, r1 3-3"},
		// set, read
		{"f()\n0: r0 const 1; return", "0", "r0 3-3"},
		{"f()\n0: print r0; return", "0", "r0 2-2"},
		{"f()\n0: call f; print r0; return", "0", "r0 2-4"},
		{"f()\n0: r0 const 1; print r0; return", "0", "r0 3-4"},
		{"f()\n0: r0 const 1; call f; print r0; return", "0", "r0 3-6"},
		{"f()\n0: print r0; r0 const 1; return", "0", "r0 2-5"},
		{"f()\n0: r0 neg r0; return", "0", "r0 2-3"},
		{"f()\n0: r1 add r0 r0; return", "0", "r0 2-2, r1 3-3"},
		{"f()\n0: r0 const 1; r0 const 2; r0 const 3; return", "0", "r0 3-7"},
		{"f()\n0: r0 const 1; print r0; r0 const 3; return", "0", "r0 3-7"},
		{"f()\n0: r0 call f r2 r1 r2; r2 call f; return", "0", "r1 2-2, r2 2-5, r0 3-3"},
		{"f()\n0: store r2 r0 r1; return", "0", "r0 2-2, r1 2-2, r2 2-2"},
		{"f() int\n0: r0 const 1; r1 const 2; return r0", "0", "r0 3-6, r1 5-5"},
		// chapter 20's examples
		{"twice(r0) int\n0: r1 add r0 r0; return r1", "0", "r0 0-2, r1 3-4"},
		{"main()\n0: r0 input; r1 call main r0; print r1; r0 const 2; r1 alloc r0; return", "0", "r0 3-10, r1 5-11"},
		// two blocks, in both orders
		{"f()\n0: r0 const 1; jump 1\n1: print r0; return", "0 1", "r0 3-6"},
		{"f()\n0: r0 const 1; jump 1\n1: print r0; return", "1 0", "r0 2-9"},
		{"f()\n0: jump 1\n1: r0 const 1; return", "0 1", "r0 5-5"},
		{"f()\n0: jump 1\n1: r0 const 1; return", "1 0", "r0 3-3"},
		{"f()\n0: jump 1\n1: print r0; return", "0 1", "r0 2-4"},
		{"f()\n0: jump 1\n1: print r0; return", "1 0", "r0 2-7"},
		{"f(r0)\n0: jump 1\n1: print r0; return", "1 0", "r0 0-7"},
		{"f(r0)\n0: jump 1\n1: r0 const 1; return", "1 0", "r0 0-3"},
		{"f()\n0: return\n1: print r0; return", "0 1", "r0 4-4"},
		{"f()\n0: return\n1: print r0; return", "1 0", "r0 2-2"},
		// on one of two ways: the other block stands between
		{"f()\n0: r0 const 1; branch r0 1 2\n1: call f; return\n2: print r0; return", "0 1 2", "r0 3-10"},
		{"f()\n0: r0 const 1; branch r0 1 2\n1: call f; return\n2: print r0; return", "0 2 1", "r0 3-6"},
		{"f()\n0: r0 const 1; branch r0 1 2\n1: call f; return\n2: print r0; return", "1 2 0", "r0 6-13"},
		{"f()\n0: r0 const 1; branch r0 1 2\n1: call f; return\n2: print r0; return", "2 1 0", "r0 2-13"},
		// a loop: live behind its last Term
		{"f()\n0: r0 const 1; jump 1\n1: print r0; jump 1", "0 1", "r0 3-9"},
		{"f()\n0: r0 const 1; jump 1\n1: print r0; jump 1", "1 0", "r0 2-9"},
		{"f()\n0: r0 const 1; jump 1\n1: r1 neg r0; jump 2\n2: r2 neg r1; branch r2 1 3\n3: return", "0 1 2 3", "r0 3-13, r1 7-10, r2 11-12"},
		{"f()\n0: r0 const 1; jump 1\n1: r1 neg r0; jump 2\n2: r2 neg r1; branch r2 1 3\n3: return", "3 2 1 0", "r0 4-15, r1 4-11, r2 5-6"},
		// of one From by rising Reg
		{"f(r9, r2, r5) regs 12\n0: r7 add r11 r3; r3 add r11 r7; return", "0", "r2 0-0, r5 0-0, r9 0-0, r3 2-5, r11 2-4, r7 3-4"},
		{"f(r1)\n0: branch r1 1 2\n1: print r4; print r3; jump 2\n2: print r2; print r0; return", "0 1 2", "r1 0-2, r0 2-12, r2 2-10, r3 2-6, r4 2-4"},
		// neither set nor read
		{"f(r300)\n0: r200 const 1; print r100; return", "0", "r300 0-0, r100 2-4, r200 3-3"},
	} {
		f := first(x.text)
		if is := tellIntervals(intervalsOf(t, f, numbers(x.line))); is != x.want {
			t.Errorf("P1704: %s\nin the line %s: %s, want %s", x.text, x.line, is, x.want)
		}
		hold(t, f, numbers(x.line))
	}
}

// TestP1704Regs: registers that are neither set nor read have no interval, wherever they stand.
func TestP1704Regs(t *testing.T) {
	f := first("f()\n0: return")
	for _, regs := range []int{0, 1, 64, 65, api.MaxRegs} {
		f.Regs = regs
		ahead, behind := liveOf(t, f)
		if list := intervalsOf(t, f, []int{0}); len(list) != 0 || len(ahead[0]) != 0 || len(behind[0]) != 0 {
			t.Errorf("Regs %d: %v, %v, %v", regs, ahead, behind, list)
		}
	}
	f.Regs, f.Params = api.MaxRegs, []int{api.MaxRegs - 1, 0}
	f.Blocks[0].Term = api.Term{Kind: api.TermBranch, Value: api.MaxRegs - 1, To: []int{0, 0}}
	ahead, behind := liveOf(t, f)
	if is := tellIntervals(intervalsOf(t, f, []int{0})); is != "r0 0-0, r262143 0-3" || tellLists(ahead) != "262143" || tellLists(behind) != "262143" {
		t.Errorf("the last register of all: %s; %v, %v", is, ahead, behind)
	}
}

// TestEmpty: a list that is nil and one that is empty mean the same.
func TestEmpty(t *testing.T) {
	f, g := first(example), first(example)
	for b := range g.Blocks {
		g.Blocks[b].Body = slices.Grow(g.Blocks[b].Body, 5)
		for i := range g.Blocks[b].Body {
			if x := &g.Blocks[b].Body[i]; len(x.Args) == 0 {
				x.Args = []int{}
			}
		}
	}
	g.Blocks[2].Term.To = make([]int, 0, 3)
	g.Params, f.Params = make([]int, 0, 2), nil
	a, b := liveOf(t, f)
	c, d := liveOf(t, g)
	if tellLists(a) != tellLists(c) || tellLists(b) != tellLists(d) || !slices.Equal(intervalsOf(t, f, []int{0, 1, 2}), intervalsOf(t, g, []int{0, 1, 2})) {
		t.Errorf("%v %v, and %v %v", a, b, c, d)
	}
	if _, e := live.Intervals(f, []int{}); e != api.ErrLine {
		t.Errorf("an empty line: %v", e)
	}
}
