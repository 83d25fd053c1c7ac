package unssa_test

import (
	"strings"
	"testing"

	"quern/api"
	"quern/sample"
)

// TestP1504Places: where the moves of a way stand.
func TestP1504Places(t *testing.T) {
	holdRows(t, inMain([]row{
		{"a jump to a block with one Pred", "0: a const 1; print a; jump 1\n1: b phi.int a; print b; return",
			"4\n0: r0 const 1; print r0; r2 move r0; jump 1\n1: print r2; return"},
		{"jumps to a block with two Preds", "0: a const true; branch a 1 2\n1: b const 1; print b; jump 3\n2: c const 2; print c; jump 3\n3: d phi.int b c; print d; return",
			"7\n0: r0 const 1; branch r0 1 2\n1: r1 const 1; print r1; r5 move r1; jump 3\n2: r3 const 2; print r3; r5 move r3; jump 3\n3: print r5; return"},
		{"a branch to a block with one Pred, the first way", "0: a const true; branch a 1 2\n1: b phi.bool a; printbool b; return\n2: return",
			"3\n0: r0 const 1; r1 move r0; branch r0 1 2\n1: printbool r1; return\n2: return"},
		{"a branch to a block with one Pred, the second way", "0: a const true; branch a 1 2\n1: return\n2: b phi.bool a; printbool b; return",
			"3\n0: r0 const 1; r1 move r0; branch r0 1 2\n1: return\n2: printbool r1; return"},
		{"both ways to blocks with one Pred", "0: a const true; x const 1; branch a 1 2\n1: b phi.int x; c phi.bool a; return\n2: d phi.bool a; e phi.int x; return",
			"6\n0: r0 const 1; r1 const 1; r2 move r1; r3 move r0; r4 move r0; r5 move r1; branch r0 1 2\n1: return\n2: return"},
		{"the first way's stand first", "0: a const true; x const 1; branch a 2 1\n1: b phi.int x; c phi.bool a; return\n2: d phi.bool a; e phi.int x; return",
			"6\n0: r0 const 1; r1 const 1; r4 move r0; r5 move r1; r2 move r1; r3 move r0; branch r0 2 1\n1: return\n2: return"},
		{"one way to a block with one Pred, the other one to one with two", "0: a const true; jump 1\n1: b phi.bool a c; c not b; branch c 1 2\n2: d phi.bool c; printbool d; return",
			"5\n0: r0 const 1; r1 move r0; jump 1\n1: r2 not r1; r3 move r2; branch r2 3 2\n2: printbool r3; return\n3: r1 move r2; jump 1"},
		{"the same by the other ways", "0: a const true; jump 1\n1: b phi.bool a c; c not b; branch c 2 1\n2: d phi.bool c; printbool d; return",
			"5\n0: r0 const 1; r1 move r0; jump 1\n1: r2 not r1; r3 move r2; branch r2 2 3\n2: printbool r3; return\n3: r1 move r2; jump 1"},
		{"both ways to one block", "0: a const true; x const 1; y const 2; branch a 1 1\n1: b phi.int x y; c phi.int y y; print b; return",
			"6\n0: r0 const 1; r1 const 1; r2 const 2; branch r0 2 3\n1: print r3; return\n2: r3 move r1; r4 move r2; jump 1\n3: r3 move r2; r4 move r2; jump 1"},
		{"both ways to one block that has others", "0: a const true; x const 1; branch a 1 2\n1: y const 2; z const 3; branch a 3 3\n2: w const 4; branch a 3 4\n3: b phi.int y z w; print b; return\n4: c phi.int w; return",
			"8\n0: r0 const 1; r1 const 1; branch r0 1 2\n1: r2 const 2; r3 const 3; branch r0 5 6\n2: r4 const 4; r7 move r4; branch r0 7 4\n3: print r5; return\n4: return\n5: r5 move r2; jump 3\n6: r5 move r3; jump 3\n7: r5 move r4; jump 3"},
		{"both ways to its own block", "0: a const true; jump 1\n1: b phi.bool a c b; c not b; printbool b; branch c 1 1",
			"4\n0: r0 const 1; r1 move r0; jump 1\n1: r2 not r1; printbool r1; branch r2 2 3\n2: r1 move r2; jump 1\n3: jump 1"},
	}))
}

// TestP1504Ways: each way has its own Arg, whatever the numbers of the blocks are.
func TestP1504Ways(t *testing.T) {
	holdRows(t, inMain([]row{
		{"Preds behind the block", "0: v0 const true; v1 const 1; branch v0 2 3\n1: v7 phi.int v2 v3 v4; v6 print v7; return\n2: v2 const 2; jump 1\n3: v3 const 3; branch v0 1 4\n4: v4 const 4; branch v0 1 5\n5: v5 const 5; panic v5",
			"8\n0: r0 const 1; r1 const 1; branch r0 2 3\n1: print r7; return\n2: r2 const 2; r7 move r2; jump 1\n3: r3 const 3; branch r0 6 4\n4: r4 const 4; branch r0 7 5\n5: r5 const 5; panic r5\n6: r7 move r3; jump 1\n7: r7 move r4; jump 1"},
		{"a loop from behind and from itself", "0: v0 const true; v1 const 1; jump 1\n1: v2 phi.int v1 v2 v3; v4 phi.bool v0 v0 v0; branch v4 2 1\n2: v3 neg v2; jump 1",
			"5\n0: r0 const 1; r1 const 1; r2 move r1; r4 move r0; jump 1\n1: branch r4 2 3\n2: r3 neg r2; r2 move r3; r4 move r0; jump 1\n3: r4 move r0; jump 1"},
		{"a Phi of a block behind", "0: v0 const true; v1 const 1; jump 2\n1: v2 phi.int v3; v6 print v2; jump 2\n2: v3 phi.int v1 v2; v4 phi.int v1 v3; v5 print v4; branch v0 1 3\n3: return",
			"7\n0: r0 const 1; r1 const 1; r3 move r1; r4 move r1; jump 2\n1: print r2; r4 move r3; r3 move r2; jump 2\n2: print r4; r2 move r3; branch r0 1 3\n3: return"},
	}))
}

// looped is main with Phis of ints in a block that leads to itself by a jump, by the first way of a branch, and by the second one: for each Phi the Arg for that way, and the moves that this makes.
func looped(what, phis, regs, moves string) []row {
	const first = "0: v0 const true; v1 const 1; jump 1\n"
	begin := regs + "\n0: r0 const 1; r1 const 1; "
	for _, phi := range strings.Split(strings.TrimSuffix(phis, "; "), "; ") { // each is v1 at the beginning
		begin += "r" + phi[1:2] + " move r1; "
	}
	begin += "jump 1\n"
	return inMain([]row{
		{what + ": by a jump", first + "1: " + phis + "jump 1", begin + "1: " + moves + "jump 1"},
		{what + ": by a first way", first + "1: " + phis + "branch v0 1 2\n2: return", begin + "1: branch r0 3 2\n2: return\n3: " + moves + "jump 1"},
		{what + ": by a second way", first + "1: " + phis + "branch v0 2 1\n2: return", begin + "1: branch r0 2 3\n2: return\n3: " + moves + "jump 1"},
	})
}

// TestP1504Order: moves at once are put in order, by way of temp where they go round; Regs has temp there.
func TestP1504Order(t *testing.T) {
	for _, rows := range [][]row{
		looped("each to itself", "v2 phi.int v1 v2; v3 phi.int v1 v3; v4 phi.int v1 v4; v5 phi.int v1 v5; v6 phi.int v1 v6; ", "7", ""),
		looped("one value to all", "v2 phi.int v1 v1; v3 phi.int v1 v1; v4 phi.int v1 v1; v5 phi.int v1 v1; v6 phi.int v1 v1; ", "7",
			"r2 move r1; r3 move r1; r4 move r1; r5 move r1; r6 move r1; "),
		looped("one Phi to all, itself too", "v2 phi.int v1 v4; v3 phi.int v1 v4; v4 phi.int v1 v4; v5 phi.int v1 v4; v6 phi.int v1 v4; ", "7",
			"r2 move r4; r3 move r4; r5 move r4; r6 move r4; "),
		looped("a chain that stands in order", "v2 phi.int v1 v3; v3 phi.int v1 v4; v4 phi.int v1 v5; v5 phi.int v1 v6; v6 phi.int v1 v1; ", "7",
			"r2 move r3; r3 move r4; r4 move r5; r5 move r6; r6 move r1; "),
		looped("a chain that stands the other way round", "v2 phi.int v1 v1; v3 phi.int v1 v2; v4 phi.int v1 v3; v5 phi.int v1 v4; v6 phi.int v1 v5; ", "7",
			"r6 move r5; r5 move r4; r4 move r3; r3 move r2; r2 move r1; "),
		looped("a circle of two", "v2 phi.int v1 v3; v3 phi.int v1 v2; v4 phi.int v1 v4; v5 phi.int v1 v5; v6 phi.int v1 v6; ", "8",
			"r7 move r3; r3 move r2; r2 move r7; "),
		looped("a circle of two behind others", "v2 phi.int v1 v2; v3 phi.int v1 v6; v4 phi.int v1 v1; v5 phi.int v1 v3; v6 phi.int v1 v3; ", "8",
			"r4 move r1; r5 move r3; r7 move r6; r6 move r3; r3 move r7; "),
		looped("a circle of all", "v2 phi.int v1 v3; v3 phi.int v1 v4; v4 phi.int v1 v5; v5 phi.int v1 v6; v6 phi.int v1 v2; ", "8",
			"r7 move r3; r3 move r4; r4 move r5; r5 move r6; r6 move r2; r2 move r7; "),
		looped("a circle of all, the other way round", "v2 phi.int v1 v6; v3 phi.int v1 v2; v4 phi.int v1 v3; v5 phi.int v1 v4; v6 phi.int v1 v5; ", "8",
			"r7 move r6; r6 move r5; r5 move r4; r4 move r3; r3 move r2; r2 move r7; "),
		looped("two circles, and one that stays", "v2 phi.int v1 v3; v3 phi.int v1 v2; v4 phi.int v1 v4; v5 phi.int v1 v6; v6 phi.int v1 v5; ", "8",
			"r7 move r3; r3 move r2; r2 move r7; r7 move r6; r6 move r5; r5 move r7; "),
		looped("circles of two and of three that cross", "v2 phi.int v1 v4; v3 phi.int v1 v5; v4 phi.int v1 v6; v5 phi.int v1 v3; v6 phi.int v1 v2; ", "8",
			"r7 move r4; r4 move r6; r6 move r2; r2 move r7; r7 move r5; r5 move r3; r3 move r7; "),
		looped("the order is that of Phis, not of numbers", "v6 phi.int v1 v2; v2 phi.int v1 v6; v4 phi.int v1 v3; v5 phi.int v1 v3; v3 phi.int v1 v1; ", "8",
			"r4 move r3; r5 move r3; r3 move r1; r7 move r2; r2 move r6; r6 move r7; "),
	} {
		holdRows(t, rows)
	}
}

// TestP1504TermsRead: what a Term reads is what was there ahead of the moves of its ways.
func TestP1504TermsRead(t *testing.T) {
	holdRows(t, inMain([]row{
		{"a Phi that its own way sets", "0: a const true; b const false; jump 1\n1: c phi.bool a d; d phi.bool b c; printbool c; branch c 1 2\n2: printbool c; return",
			"7\n0: r0 const 1; r1 const 0; r2 move r0; r3 move r1; jump 1\n1: printbool r2; branch r2 3 2\n2: printbool r2; return\n3: r6 move r3; r3 move r2; r2 move r6; jump 1"},
		{"a Phi that goes to both ways", "0: a const true; jump 1\n1: b phi.bool a; branch b 2 3\n2: c phi.bool b; branch c 4 4\n3: d phi.bool b; return\n4: e phi.bool b c; printbool e; return",
			"6\n0: r0 const 1; r1 move r0; jump 1\n1: r2 move r1; r3 move r1; branch r1 2 3\n2: branch r2 5 6\n3: return\n4: printbool r4; return\n5: r4 move r1; jump 4\n6: r4 move r2; jump 4"},
		{"a panic of a Phi", "0: a const 5; jump 1\n1: b phi.int a; panic b", "2\n0: r0 const 5; r1 move r0; jump 1\n1: panic r1"},
	}))
	holdRows(t, []row{{"a return of a Phi", "f(a int, b bool) int\n0: branch b 1 2\n1: c neg a; jump 2\n2: d phi.int a c; return d\nmain()\n0: return",
		"f(r0, r1) int regs 4\n0: branch r1 1 3\n1: r2 neg r0; r3 move r2; jump 2\n2: return r3\n3: r3 move r0; jump 2\nmain() regs 0\n0: return"}})
}

// TestP1505: temp counts where one way of the function has a circle, and in that function alone.
func TestP1505(t *testing.T) {
	const (
		circle   = "()\n0: v0 const 1; v1 const 2; v4 const true; jump 1\n1: v2 phi.int v0 v3 v2; v3 phi.int v1 v2 v3; branch v4 1 1\n"
		straight = "()\n0: v0 const 1; v1 const 2; v4 const true; jump 1\n1: v2 phi.int v0 v1 v2; v3 phi.int v1 v2 v3; branch v4 1 1\n"
		last     = "()\n0: v0 const 1; v1 const 2; v4 const true; jump 1\n1: v2 phi.int v0 v2 v3; v3 phi.int v1 v3 v2; branch v4 1 1\n"
	)
	l := lowered(t, sample.SSA("a"+circle+"b"+straight+"c"+last+"main()\n0: return\nd()\n0: v0 const 1; return\ne"+circle))
	for i, want := range []int{6, 5, 6, 0, 1, 6} {
		if is := l.Funcs[i].Regs; is != want {
			t.Errorf("P1505: %s: Regs %d, want %d", l.Funcs[i].Name, is, want)
		}
	}
	temp := func(f api.LFunc) (often int) {
		for _, b := range f.Blocks {
			for _, x := range b.Body {
				if x.Dst == 5 {
					often++
				}
			}
		}
		return often
	}
	if temp(l.Funcs[0]) != 1 || temp(l.Funcs[1]) != 0 || temp(l.Funcs[2]) != 1 || temp(l.Funcs[5]) != 1 {
		t.Errorf("P1504: temp: %+v", l)
	}
}
