package unssa_test

import "testing"

// TestP1502NoPhis: which ways have new blocks, and their order, where there is nothing to move.
func TestP1502NoPhis(t *testing.T) {
	holdRows(t, inMain([]row{
		{"no way to a block with two Preds", "0: a const true; branch a 2 1\n1: return\n2: b const 1; panic b",
			"2\n0: r0 const 1; branch r0 2 1\n1: return\n2: r1 const 1; panic r1"},
		{"the first way", "0: a const true; branch a 2 1\n1: jump 2\n2: return",
			"1\n0: r0 const 1; branch r0 3 1\n1: jump 2\n2: return\n3: jump 2"},
		{"the second way", "0: a const true; branch a 1 2\n1: jump 2\n2: return",
			"1\n0: r0 const 1; branch r0 1 3\n1: jump 2\n2: return\n3: jump 2"},
		{"both ways to two blocks", "0: a const true; branch a 1 2\n1: branch a 4 3\n2: branch a 3 4\n3: return\n4: return",
			"1\n0: r0 const 1; branch r0 1 2\n1: branch r0 5 6\n2: branch r0 7 8\n3: return\n4: return\n5: jump 4\n6: jump 3\n7: jump 3\n8: jump 4"},
		{"both ways to one block", "0: a const true; branch a 1 1\n1: return",
			"1\n0: r0 const 1; branch r0 2 3\n1: return\n2: jump 1\n3: jump 1"},
		{"both ways to one block with a further Pred", "0: a const true; branch a 1 2\n1: branch a 2 2\n2: return",
			"1\n0: r0 const 1; branch r0 1 3\n1: branch r0 4 5\n2: return\n3: jump 2\n4: jump 2\n5: jump 2"},
		{"jumps alone to a block with two Preds", "0: a const true; branch a 1 2\n1: jump 3\n2: jump 3\n3: return",
			"1\n0: r0 const 1; branch r0 1 2\n1: jump 3\n2: jump 3\n3: return"},
		{"a block that jumps to itself", "0: jump 1\n1: jump 1", "0\n0: jump 1\n1: jump 1"},
		{"a first way to its own block", "0: a const true; jump 1\n1: branch a 1 2\n2: return",
			"1\n0: r0 const 1; jump 1\n1: branch r0 3 2\n2: return\n3: jump 1"},
		{"a second way to its own block", "0: a const true; jump 1\n1: branch a 2 1\n2: return",
			"1\n0: r0 const 1; jump 1\n1: branch r0 2 3\n2: return\n3: jump 1"},
		{"both ways to its own block", "0: a const true; jump 1\n1: branch a 1 1",
			"1\n0: r0 const 1; jump 1\n1: branch r0 2 3\n2: jump 1\n3: jump 1"},
		{"by rising numbers of the blocks from which they go", "0: a const true; jump 3\n1: branch a 1 2\n2: branch a 3 4\n3: branch a 2 1\n4: branch a 1 3",
			"1\n0: r0 const 1; jump 3\n1: branch r0 5 6\n2: branch r0 7 4\n3: branch r0 8 9\n4: branch r0 10 11\n5: jump 1\n6: jump 2\n7: jump 3\n8: jump 2\n9: jump 1\n10: jump 1\n11: jump 3"},
		{"one Pred behind a branch, two at its beginning", "0: a const true; jump 1\n1: branch a 2 3\n2: jump 1\n3: return",
			"1\n0: r0 const 1; jump 1\n1: branch r0 2 3\n2: jump 1\n3: return"},
	}))
}

// TestP1502Functions: each function has new blocks of its own.
func TestP1502Functions(t *testing.T) {
	holdRows(t, []row{{"three functions", `f(a bool) bool
		0: branch a 1 1
		1: return a
		main()
		0: a const true; b call f a; branch b 1 2
		1: return
		2: return
		g(a bool, b bool) bool
		0: branch b 1 2
		1: branch a 2 1
		2: c phi.bool a b; return c`, `f(r0) bool regs 1
		0: branch r0 2 3
		1: return r0
		2: jump 1
		3: jump 1
		main() regs 2
		0: r0 const 1; r1 call f r0; branch r1 1 2
		1: return
		2: return
		g(r0, r1) bool regs 3
		0: branch r1 3 4
		1: branch r0 5 6
		2: return r2
		3: jump 1
		4: r2 move r0; jump 2
		5: r2 move r1; jump 2
		6: jump 1`}})
}

// TestP1502Terms: all but branches lead where they led, and read what they read.
func TestP1502Terms(t *testing.T) {
	holdRows(t, []row{{"of all kinds", `f(v3 int, v1 bool) int
		0: branch v1 4 1
		1: jump 4
		2: return v0
		3: panic v3
		4: v0 phi.int v3 v3; v2 phi.bool v1 v1; branch v2 3 2
		main()
		0: return`, `f(r3, r1) int regs 4
		0: branch r1 5 1
		1: r0 move r3; r2 move r1; jump 4
		2: return r0
		3: panic r3
		4: branch r2 3 2
		5: r0 move r3; r2 move r1; jump 4
		main() regs 0
		0: return`}})
}
