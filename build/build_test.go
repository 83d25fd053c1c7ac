package build_test

import "testing"

func TestExamples(t *testing.T) {
	holdRows(t, []row{
		{"var i int; for i < 3 { print(i); i = i + 1; }", `
			0: v0 Const 0 int, jump 1
			1 of 0 2: v1 Phi v0 v6 int, | v2 Const 3 int, v3 Lt v1 v2 bool, branch v3 2 3
			2 of 1: v4 PrintInt v1, v5 Const 1 int, v6 Add v1 v5 int, jump 1
			3 of 1: return`, 9},
		{"var x int = input(); var b bool = x > 1 && x < 9; print(b);", `
			0: v0 Input int, v1 Const 1 int, v2 Lt v1 v0 bool, branch v2 1 2
			1 of 0: v3 Const 9 int, v4 Lt v0 v3 bool, jump 2
			2 of 0 1: v5 Phi v2 v4 bool, | v6 PrintBool v5, return`, 9},
		{"var b bool; if b && b { return; print(1); } print(b);", `
			0: v0 Const 0 bool, branch v0 1 2
			1 of 0: jump 2
			2 of 0 1: branch v0 3 4
			3 of 2: return
			4 of 2: v1 PrintBool v0, return`, 8},
		{"for { if input() == 0 { break; } }", `
			0: jump 1
			1 of 0 4: jump 2
			2 of 1: v0 Input int, v1 Const 0 int, v2 Eq v0 v1 bool, branch v2 3 4
			3 of 2: jump 5
			4 of 2: jump 1
			5 of 3: return`, 3},
		{"for { } print(1);", `
			0: jump 1
			1 of 0 2: jump 2
			2 of 1: jump 1`, 0},
		{"var x int = 1; for true { x = x; } print(x);", `
			0: v0 Const 1 int, jump 1
			1 of 0 2: v1 Const 1 bool, branch v1 2 3
			2 of 1: jump 1
			3 of 1: v2 PrintInt v0, return`, 6},
		{"var x int; var y int = 2; for x < y { if y > 5 { x = y; } else { x = 7; } y = x; } print(y);", `
			0: v0 Const 0 int, v1 Const 2 int, jump 1
			1 of 0 5: v2 Phi v0 v8 int, v3 Phi v1 v8 int, | v4 Lt v2 v3 bool, branch v4 2 6
			2 of 1: v5 Const 5 int, v6 Lt v5 v3 bool, branch v6 3 4
			3 of 2: jump 5
			4 of 2: v7 Const 7 int, jump 5
			5 of 3 4: v8 Phi v3 v7 int, | jump 1
			6 of 1: v9 PrintInt v3, return`, 16},
	})
}

// TestP1103AFunction is also of P1102: what is made where, and which numbers the blocks have.
func TestP1103AFunction(t *testing.T) {
	holdRows(t, []row{
		{"", "0: return", 0},
		{"return; print(1); return;", "0: return", 0},
		{"{ { return; } print(1); } print(2);", "0: return", 0},
		{"panic(1); print(2);", "0: v0 Const 1 int, panic v0", 1},
	})
	holdFirst(t, []row{
		{"func f(a int, b bool, c []int, d int) int { return d; }", "0: return v3", 4},
		{"func f(a int, b bool, c []int, d int) []int { a = 1; return c; }", "0: v4 Const 1 int, return v2", 5},
		{"func f(a int, b int, c int, d int, e int, g int, h int, i int) { }", "0: return", 8},
		{"func f(a bool) { if a { return; } }", `
			0: branch v0 1 2
			1 of 0: return
			2 of 0: return`, 1},
		{"func f() int { for { } }", `
			0: jump 1
			1 of 0 2: jump 2
			2 of 1: jump 1`, 0},
		{"func f(a bool) int { if a { return 1; } else { panic(2); } }", `
			0: branch v0 1 2
			1 of 0: v1 Const 1 int, return v1
			2 of 0: v2 Const 2 int, panic v2`, 3},
		{"func f(a bool) int { return 1; for a { } return 2; }", "0: v1 Const 1 int, return v1", 2},
	})
}

func TestP1104VarSet(t *testing.T) {
	holdRows(t, []row{
		{"var a int; var b bool; var c []int; print(a); print(b); print(len(c));", `
			0: v0 Const 0 int, v1 Const 0 bool, v2 Const 0 []int, v3 PrintInt v0, v4 PrintBool v1, v5 Len v2 int, v6 PrintInt v5, return`, 7},
		{"var a int = 5; var b bool = true; var c []int = nil; a = 6; b = false; c = nil; print(a); print(b); print(len(c));", `
			0: v0 Const 5 int, v1 Const 1 bool, v2 Const 0 []int, v3 Const 6 int, v4 Const 0 bool, v5 Const 0 []int,
			v6 PrintInt v3, v7 PrintBool v4, v8 Len v5 int, v9 PrintInt v8, return`, 10},
		{"var a int = 5; { var a int = a; a = 6; print(a); } print(a);", `
			0: v0 Const 5 int, v1 Const 6 int, v2 PrintInt v1, v3 PrintInt v0, return`, 4},
		{"var a int = 1; var b int = a; a = 2; print(b); print(a);", `
			0: v0 Const 1 int, v1 Const 2 int, v2 PrintInt v0, v3 PrintInt v1, return`, 4},
	})
}

func TestP1104SetAt(t *testing.T) {
	holdRows(t, []row{
		{"var a []int = make([]int, 2); a[1] = 3;", `
			0: v0 Const 2 int, v1 TrapNeg 4 v0, v2 Alloc v0 []int, v3 Const 1 int, v4 Const 3 int, v5 Len v2 int, v6 TrapBound 2 v3 v5, v7 Store v2 v3 v4, return`, 8},
		{"var a []int; var b []int = a; a[len(a)] = a[0];", `
			0: v0 Const 0 []int, v1 Len v0 int, v2 Const 0 int, v3 Len v0 int, v4 TrapBound 2 v2 v3, v5 Load v0 v2 int,
			v6 Len v0 int, v7 TrapBound 2 v1 v6, v8 Store v0 v1 v5, return`, 9},
		// The variable is asked ahead of the index: so no Phi is made for it in block 2.
		{"var a []int; var b bool = h(); a[f(1, b && h())] = 2;", `
			0: v0 Const 0 []int, v1 Call 3 bool, v2 Const 1 int, branch v1 1 2
			1 of 0: v3 Call 3 bool, jump 2
			2 of 0 1: v4 Phi v1 v3 bool, | v5 Call 1 v2 v4 int, v6 Const 2 int, v7 Len v0 int, v8 TrapBound 2 v5 v7, v9 Store v0 v5 v6, return`, 12},
	})
}

func TestP1104CallPrintPanic(t *testing.T) {
	holdRows(t, []row{
		{"nothing(1); h(); f(2, true); g(nil); print(1); print(true);", `
			0: v0 Const 1 int, v1 Call 4 v0, v2 Call 3 bool, v3 Const 2 int, v4 Const 1 bool, v5 Call 1 v3 v4 int,
			v6 Const 0 []int, v7 Call 2 v6 []int, v8 Const 1 int, v9 PrintInt v8, v10 Const 1 bool, v11 PrintBool v10, return`, 12},
		{"main(); nothing(f(f(1, true), h()));", `
			0: v0 Call, v1 Const 1 int, v2 Const 1 bool, v3 Call 1 v1 v2 int, v4 Call 3 bool, v5 Call 1 v3 v4 int, v6 Call 4 v5, return`, 7},
		{"panic(input()); panic(2);", "0: v0 Input int, panic v0", 1},
	})
}

func TestP1104If(t *testing.T) {
	holdRows(t, []row{
		{"if h() { }", `
			0: v0 Call 3 bool, branch v0 1 2
			1 of 0: jump 2
			2 of 0 1: return`, 1},
		{"if h() { print(1); } print(2);", `
			0: v0 Call 3 bool, branch v0 1 2
			1 of 0: v1 Const 1 int, v2 PrintInt v1, jump 2
			2 of 0 1: v3 Const 2 int, v4 PrintInt v3, return`, 5},
		{"if h() { print(1); } else { print(2); } print(3);", `
			0: v0 Call 3 bool, branch v0 1 2
			1 of 0: v1 Const 1 int, v2 PrintInt v1, jump 3
			2 of 0: v3 Const 2 int, v4 PrintInt v3, jump 3
			3 of 1 2: v5 Const 3 int, v6 PrintInt v5, return`, 7},
		{"if h() { return; } print(2);", `
			0: v0 Call 3 bool, branch v0 1 2
			1 of 0: return
			2 of 0: v1 Const 2 int, v2 PrintInt v1, return`, 3},
		{"if h() { return; } else { print(2); } print(3);", `
			0: v0 Call 3 bool, branch v0 1 2
			1 of 0: return
			2 of 0: v1 Const 2 int, v2 PrintInt v1, jump 3
			3 of 2: v3 Const 3 int, v4 PrintInt v3, return`, 5},
		{"if h() { print(1); } else { panic(2); } print(3);", `
			0: v0 Call 3 bool, branch v0 1 2
			1 of 0: v1 Const 1 int, v2 PrintInt v1, jump 3
			2 of 0: v3 Const 2 int, panic v3
			3 of 1: v4 Const 3 int, v5 PrintInt v4, return`, 6},
		{"if h() { return; } else { panic(2); } print(3);", `
			0: v0 Call 3 bool, branch v0 1 2
			1 of 0: return
			2 of 0: v1 Const 2 int, panic v1`, 2},
		{"if h() { { return; } print(1); } else { }", `
			0: v0 Call 3 bool, branch v0 1 2
			1 of 0: return
			2 of 0: jump 3
			3 of 2: return`, 1},
	})
}

func TestP1104ElseIf(t *testing.T) {
	holdRows(t, []row{
		{"if h() { print(1); } else if h() { print(2); } else if h() { print(3); } print(4);", `
			0: v0 Call 3 bool, branch v0 1 2
			1 of 0: v1 Const 1 int, v2 PrintInt v1, jump 8
			2 of 0: v3 Call 3 bool, branch v3 3 4
			3 of 2: v4 Const 2 int, v5 PrintInt v4, jump 7
			4 of 2: v6 Call 3 bool, branch v6 5 6
			5 of 4: v7 Const 3 int, v8 PrintInt v7, jump 6
			6 of 4 5: jump 7
			7 of 3 6: jump 8
			8 of 1 7: v9 Const 4 int, v10 PrintInt v9, return`, 11},
		{"if h() { print(1); } else if h() { return; } else { return; } print(4);", `
			0: v0 Call 3 bool, branch v0 1 2
			1 of 0: v1 Const 1 int, v2 PrintInt v1, jump 5
			2 of 0: v3 Call 3 bool, branch v3 3 4
			3 of 2: return
			4 of 2: return
			5 of 1: v4 Const 4 int, v5 PrintInt v4, return`, 6},
		{"if h() { return; } else if h() { return; } else { return; } print(4);", `
			0: v0 Call 3 bool, branch v0 1 2
			1 of 0: return
			2 of 0: v1 Call 3 bool, branch v1 3 4
			3 of 2: return
			4 of 2: return`, 2},
	})
}

func TestP1104For(t *testing.T) {
	holdRows(t, []row{
		{"for h() { print(1); } print(2);", `
			0: jump 1
			1 of 0 2: v0 Call 3 bool, branch v0 2 3
			2 of 1: v1 Const 1 int, v2 PrintInt v1, jump 1
			3 of 1: v3 Const 2 int, v4 PrintInt v3, return`, 5},
		{"for { print(1); } print(2);", `
			0: jump 1
			1 of 0 2: jump 2
			2 of 1: v0 Const 1 int, v1 PrintInt v0, jump 1`, 2},
		{"for h() { break; } print(2);", `
			0: jump 1
			1 of 0: v0 Call 3 bool, branch v0 2 3
			2 of 1: jump 3
			3 of 1 2: v1 Const 2 int, v2 PrintInt v1, return`, 3},
		{"for { break; } print(2);", `
			0: jump 1
			1 of 0: jump 2
			2 of 1: jump 3
			3 of 2: v0 Const 2 int, v1 PrintInt v0, return`, 2},
		{"for { return; } print(2);", `
			0: jump 1
			1 of 0: jump 2
			2 of 1: return`, 0},
		{"for h() { return; } print(2);", `
			0: jump 1
			1 of 0: v0 Call 3 bool, branch v0 2 3
			2 of 1: return
			3 of 1: v1 Const 2 int, v2 PrintInt v1, return`, 3},
		{"for h() { continue; } print(2);", `
			0: jump 1
			1 of 0 2: v0 Call 3 bool, branch v0 2 3
			2 of 1: jump 1
			3 of 1: v1 Const 2 int, v2 PrintInt v1, return`, 3},
		{"for { continue; print(1); } print(2);", `
			0: jump 1
			1 of 0 2: jump 2
			2 of 1: jump 1`, 0},
	})
}

func TestP1104BreakContinue(t *testing.T) {
	holdRows(t, []row{
		{"for { if h() { continue; } if h() { break; } print(1); } print(2);", `
			0: jump 1
			1 of 0 3 6: jump 2
			2 of 1: v0 Call 3 bool, branch v0 3 4
			3 of 2: jump 1
			4 of 2: v1 Call 3 bool, branch v1 5 6
			5 of 4: jump 7
			6 of 4: v2 Const 1 int, v3 PrintInt v2, jump 1
			7 of 5: v4 Const 2 int, v5 PrintInt v4, return`, 6},
		{"for h() { for { if h() { break; } continue; } break; } print(2);", `
			0: jump 1
			1 of 0: v0 Call 3 bool, branch v0 2 8
			2 of 1: jump 3
			3 of 2 6: jump 4
			4 of 3: v1 Call 3 bool, branch v1 5 6
			5 of 4: jump 7
			6 of 4: jump 3
			7 of 5: jump 8
			8 of 1 7: v2 Const 2 int, v3 PrintInt v2, return`, 4},
		{"for { for { break; } } print(2);", `
			0: jump 1
			1 of 0 5: jump 2
			2 of 1: jump 3
			3 of 2: jump 4
			4 of 3: jump 5
			5 of 4: jump 1`, 0},
		{"for { for h() { continue; } return; }", `
			0: jump 1
			1 of 0: jump 2
			2 of 1: jump 3
			3 of 2 4: v0 Call 3 bool, branch v0 4 5
			4 of 3: jump 3
			5 of 3: return`, 1},
		{"for { { break; } print(1); }", `
			0: jump 1
			1 of 0: jump 2
			2 of 1: jump 3
			3 of 2: return`, 0},
		{"for { break; break; continue; return; }", `
			0: jump 1
			1 of 0: jump 2
			2 of 1: jump 3
			3 of 2: return`, 0},
	})
}

func TestP1104Block(t *testing.T) {
	holdRows(t, []row{
		{"{ } { { } } { print(1); { print(2); } } print(3);", `
			0: v0 Const 1 int, v1 PrintInt v0, v2 Const 2 int, v3 PrintInt v2, v4 Const 3 int, v5 PrintInt v4, return`, 6},
		{"{ { if h() { return; } } print(1); { return; } } { print(2); }", `
			0: v0 Call 3 bool, branch v0 1 2
			1 of 0: return
			2 of 0: v1 Const 1 int, v2 PrintInt v1, return`, 3},
	})
}

func TestP1105BothEither(t *testing.T) {
	holdRows(t, []row{
		{"print(h() && h());", `
			0: v0 Call 3 bool, branch v0 1 2
			1 of 0: v1 Call 3 bool, jump 2
			2 of 0 1: v2 Phi v0 v1 bool, | v3 PrintBool v2, return`, 6},
		{"print(h() || h());", `
			0: v0 Call 3 bool, branch v0 2 1
			1 of 0: v1 Call 3 bool, jump 2
			2 of 0 1: v2 Phi v0 v1 bool, | v3 PrintBool v2, return`, 6},
		{"print(h() && h() && h());", `
			0: v0 Call 3 bool, branch v0 1 2
			1 of 0: v1 Call 3 bool, jump 2
			2 of 0 1: v2 Phi v0 v1 bool, | branch v2 3 4
			3 of 2: v3 Call 3 bool, jump 4
			4 of 2 3: v4 Phi v2 v3 bool, | v5 PrintBool v4, return`, 10},
		{"print(h() && (h() && h()));", `
			0: v0 Call 3 bool, branch v0 1 4
			1 of 0: v1 Call 3 bool, branch v1 2 3
			2 of 1: v2 Call 3 bool, jump 3
			3 of 1 2: v3 Phi v1 v2 bool, | jump 4
			4 of 0 3: v4 Phi v0 v3 bool, | v5 PrintBool v4, return`, 10},
		{"print(h() || h() && h());", `
			0: v0 Call 3 bool, branch v0 4 1
			1 of 0: v1 Call 3 bool, branch v1 2 3
			2 of 1: v2 Call 3 bool, jump 3
			3 of 1 2: v3 Phi v1 v2 bool, | jump 4
			4 of 0 3: v4 Phi v0 v3 bool, | v5 PrintBool v4, return`, 10},
		{"print((h() || h()) && h());", `
			0: v0 Call 3 bool, branch v0 2 1
			1 of 0: v1 Call 3 bool, jump 2
			2 of 0 1: v2 Phi v0 v1 bool, | branch v2 3 4
			3 of 2: v3 Call 3 bool, jump 4
			4 of 2 3: v4 Phi v2 v3 bool, | v5 PrintBool v4, return`, 10},
		{"print(f(1, h() && h()) + f(2, h() || h()));", `
			0: v0 Const 1 int, v1 Call 3 bool, branch v1 1 2
			1 of 0: v2 Call 3 bool, jump 2
			2 of 0 1: v3 Phi v1 v2 bool, | v4 Call 1 v0 v3 int, v5 Const 2 int, v6 Call 3 bool, branch v6 4 3
			3 of 2: v7 Call 3 bool, jump 4
			4 of 2 3: v8 Phi v6 v7 bool, | v9 Call 1 v5 v8 int, v10 Add v4 v9 int, v11 PrintInt v10, return`, 16},
	})
}

func TestP1105InConditions(t *testing.T) {
	holdRows(t, []row{
		{"if h() && h() { print(1); } print(2);", `
			0: v0 Call 3 bool, branch v0 1 2
			1 of 0: v1 Call 3 bool, jump 2
			2 of 0 1: v2 Phi v0 v1 bool, | branch v2 3 4
			3 of 2: v3 Const 1 int, v4 PrintInt v3, jump 4
			4 of 2 3: v5 Const 2 int, v6 PrintInt v5, return`, 9},
		{"if h() || h() { print(1); } else { print(2); }", `
			0: v0 Call 3 bool, branch v0 2 1
			1 of 0: v1 Call 3 bool, jump 2
			2 of 0 1: v2 Phi v0 v1 bool, | branch v2 3 4
			3 of 2: v3 Const 1 int, v4 PrintInt v3, jump 5
			4 of 2: v5 Const 2 int, v6 PrintInt v5, jump 5
			5 of 3 4: return`, 9},
		{"if h() && h() { return; } else { return; } print(1);", `
			0: v0 Call 3 bool, branch v0 1 2
			1 of 0: v1 Call 3 bool, jump 2
			2 of 0 1: v2 Phi v0 v1 bool, | branch v2 3 4
			3 of 2: return
			4 of 2: return`, 5},
		{"for h() && h() { print(1); } print(2);", `
			0: jump 1
			1 of 0 4: v0 Call 3 bool, branch v0 2 3
			2 of 1: v1 Call 3 bool, jump 3
			3 of 1 2: v2 Phi v0 v1 bool, | branch v2 4 5
			4 of 3: v3 Const 1 int, v4 PrintInt v3, jump 1
			5 of 3: v5 Const 2 int, v6 PrintInt v5, return`, 9},
		{"for h() || h() { if h() && h() { break; } continue; }", `
			0: jump 1
			1 of 0 8: v0 Call 3 bool, branch v0 3 2
			2 of 1: v1 Call 3 bool, jump 3
			3 of 1 2: v2 Phi v0 v1 bool, | branch v2 4 9
			4 of 3: v3 Call 3 bool, branch v3 5 6
			5 of 4: v4 Call 3 bool, jump 6
			6 of 4 5: v5 Phi v3 v4 bool, | branch v5 7 8
			7 of 6: jump 9
			8 of 6: jump 1
			9 of 3 7: return`, 10},
		{"var b bool = true && false; b = b || b; return; print(b && b);", `
			0: v0 Const 1 bool, branch v0 1 2
			1 of 0: v1 Const 0 bool, jump 2
			2 of 0 1: v2 Phi v0 v1 bool, | branch v2 4 3
			3 of 2: jump 4
			4 of 2 3: return`, 8},
	})
}

func TestP1106Leaves(t *testing.T) {
	holdRows(t, []row{
		{"print(7); print(true); print(false); print(nil == g(nil)); print(g(nil) != nil);", `
			0: v0 Const 7 int, v1 PrintInt v0, v2 Const 1 bool, v3 PrintBool v2, v4 Const 0 bool, v5 PrintBool v4,
			v6 Const 0 []int, v7 Const 0 []int, v8 Call 2 v7 []int, v9 Eq v6 v8 bool, v10 PrintBool v9,
			v11 Const 0 []int, v12 Call 2 v11 []int, v13 Const 0 []int, v14 Ne v12 v13 bool, v15 PrintBool v14, return`, 16},
		{"var a int = 3; print(a); print(a + a); print(9223372036854775807);", `
			0: v0 Const 3 int, v1 PrintInt v0, v2 Add v0 v0 int, v3 PrintInt v2, v4 Const 9223372036854775807 int, v5 PrintInt v4, return`, 6},
	})
}

func TestP1106Signs(t *testing.T) {
	const two = "var a int = input(); var b int = input(); "
	holdRows(t, []row{
		{"print(-1); print(!true); print(^2); print(--1); print(-^1);", `
			0: v0 Const 1 int, v1 Neg v0 int, v2 PrintInt v1, v3 Const 1 bool, v4 Not v3 bool, v5 PrintBool v4,
			v6 Const 2 int, v7 Inv v6 int, v8 PrintInt v7, v9 Const 1 int, v10 Neg v9 int, v11 Neg v10 int, v12 PrintInt v11,
			v13 Const 1 int, v14 Inv v13 int, v15 Neg v14 int, v16 PrintInt v15, return`, 17},
		{two + "print(a + b); print(a - b); print(a * b); print(a & b); print(a | b); print(a ^ b); print(a &^ b);", `
			0: v0 Input int, v1 Input int, v2 Add v0 v1 int, v3 PrintInt v2, v4 Sub v0 v1 int, v5 PrintInt v4, v6 Mul v0 v1 int, v7 PrintInt v6,
			v8 And v0 v1 int, v9 PrintInt v8, v10 Or v0 v1 int, v11 PrintInt v10, v12 Xor v0 v1 int, v13 PrintInt v12, v14 Bic v0 v1 int, v15 PrintInt v14, return`, 16},
		{two + "print(a / b); print(a % b); print(a << b); print(a >> b);", `
			0: v0 Input int, v1 Input int, v2 TrapZero 1 v1, v3 Div v0 v1 int, v4 PrintInt v3, v5 TrapZero 1 v1, v6 Rem v0 v1 int, v7 PrintInt v6,
			v8 TrapNeg 3 v1, v9 Shl v0 v1 int, v10 PrintInt v9, v11 TrapNeg 3 v1, v12 Shr v0 v1 int, v13 PrintInt v12, return`, 14},
		{two + "print(a == b); print(a != b); print(a < b); print(a <= b); print(a > b); print(a >= b);", `
			0: v0 Input int, v1 Input int, v2 Eq v0 v1 bool, v3 PrintBool v2, v4 Ne v0 v1 bool, v5 PrintBool v4, v6 Lt v0 v1 bool, v7 PrintBool v6,
			v8 Le v0 v1 bool, v9 PrintBool v8, v10 Lt v1 v0 bool, v11 PrintBool v10, v12 Le v1 v0 bool, v13 PrintBool v12, return`, 14},
		{"print(true == false); print(true != false);", `
			0: v0 Const 1 bool, v1 Const 0 bool, v2 Eq v0 v1 bool, v3 PrintBool v2, v4 Const 1 bool, v5 Const 0 bool, v6 Ne v4 v5 bool, v7 PrintBool v6, return`, 8},
	})
}

// TestP1106Order: kids go from the left to the right, each value is made when its turn comes.
func TestP1106Order(t *testing.T) {
	holdRows(t, []row{
		{"print(input() > input()); print(1 >= 2);", `
			0: v0 Input int, v1 Input int, v2 Lt v1 v0 bool, v3 PrintBool v2, v4 Const 1 int, v5 Const 2 int, v6 Le v5 v4 bool, v7 PrintBool v6, return`, 8},
		{"print(1 / 2 / 3); print(1 << (2 >> 3));", `
			0: v0 Const 1 int, v1 Const 2 int, v2 TrapZero 1 v1, v3 Div v0 v1 int, v4 Const 3 int, v5 TrapZero 1 v4, v6 Div v3 v4 int, v7 PrintInt v6,
			v8 Const 1 int, v9 Const 2 int, v10 Const 3 int, v11 TrapNeg 3 v10, v12 Shr v9 v10 int, v13 TrapNeg 3 v12, v14 Shl v8 v12 int, v15 PrintInt v14, return`, 16},
		{"print(1 + 2 * 3 - 4);", `
			0: v0 Const 1 int, v1 Const 2 int, v2 Const 3 int, v3 Mul v1 v2 int, v4 Add v0 v3 int, v5 Const 4 int, v6 Sub v4 v5 int, v7 PrintInt v6, return`, 8},
		{"print(len(make([]int, input()))); print(make([]int, 2)[1]);", `
			0: v0 Input int, v1 TrapNeg 4 v0, v2 Alloc v0 []int, v3 Len v2 int, v4 PrintInt v3,
			v5 Const 2 int, v6 TrapNeg 4 v5, v7 Alloc v5 []int, v8 Const 1 int, v9 Len v7 int, v10 TrapBound 2 v8 v9, v11 Load v7 v8 int, v12 PrintInt v11, return`, 13},
		{"var a []int = g(nil); print(a[a[1]]); print(g(a)[0]);", `
			0: v0 Const 0 []int, v1 Call 2 v0 []int, v2 Const 1 int, v3 Len v1 int, v4 TrapBound 2 v2 v3, v5 Load v1 v2 int,
			v6 Len v1 int, v7 TrapBound 2 v5 v6, v8 Load v1 v5 int, v9 PrintInt v8,
			v10 Call 2 v1 []int, v11 Const 0 int, v12 Len v10 int, v13 TrapBound 2 v11 v12, v14 Load v10 v11 int, v15 PrintInt v14, return`, 16},
		{"print(f(1, f(2, false) > f(3, true)));", `
			0: v0 Const 1 int, v1 Const 2 int, v2 Const 0 bool, v3 Call 1 v1 v2 int, v4 Const 3 int, v5 Const 1 bool, v6 Call 1 v4 v5 int,
			v7 Lt v6 v3 bool, v8 Call 1 v0 v7 int, v9 PrintInt v8, return`, 10},
	})
}

func TestP1107Sealed(t *testing.T) {
	holdRows(t, []row{
		// A head that only one block leads to in the end has a Phi, if it was asked ahead of that, else none.
		{"var a int; for { return; } print(a);", `
			0: v0 Const 0 int, jump 1
			1 of 0: jump 2
			2 of 1: return`, 1},
		{"var a int; for { print(a); return; }", `
			0: v0 Const 0 int, jump 1
			1 of 0: jump 2
			2 of 1: v1 PrintInt v0, return`, 4},
		{"var a int; for { print(a); a = 1; break; } print(a);", `
			0: v0 Const 0 int, jump 1
			1 of 0: jump 2
			2 of 1: v1 PrintInt v0, v2 Const 1 int, jump 3
			3 of 2: v3 PrintInt v2, return`, 6},
		{"var a int = 1; for { for { if h() { break; } return; } print(a); }", `
			0: v0 Const 1 int, jump 1
			1 of 0 7: jump 2
			2 of 1: jump 3
			3 of 2: jump 4
			4 of 3: v1 Call 3 bool, branch v1 5 6
			5 of 4: jump 7
			6 of 4: return
			7 of 5: v2 PrintInt v0, jump 1`, 6},
		// The blocks of the condition are sealed, the head is not.
		{"var a int = 1; for a < 2 && a < 3 { a = a + 1; } print(a);", `
			0: v0 Const 1 int, jump 1
			1 of 0 4: v1 Phi v0 v8 int, | v2 Const 2 int, v3 Lt v1 v2 bool, branch v3 2 3
			2 of 1: v4 Const 3 int, v5 Lt v1 v4 bool, jump 3
			3 of 1 2: v6 Phi v3 v5 bool, | branch v6 4 5
			4 of 3: v7 Const 1 int, v8 Add v1 v7 int, jump 1
			5 of 3: v9 PrintInt v1, return`, 17},
		{"var a int = 1; for h() && h() { print(a); } print(a);", `
			0: v0 Const 1 int, jump 1
			1 of 0 4: v1 Call 3 bool, branch v1 2 3
			2 of 1: v2 Call 3 bool, jump 3
			3 of 1 2: v3 Phi v1 v2 bool, | branch v3 4 5
			4 of 3: v4 PrintInt v0, jump 1
			5 of 3: v5 PrintInt v0, return`, 14},
	})
}

func TestP1108InIfs(t *testing.T) {
	holdRows(t, []row{
		{"var a int; if h() { a = 1; } print(a);", `
			0: v0 Const 0 int, v1 Call 3 bool, branch v1 1 2
			1 of 0: v2 Const 1 int, jump 2
			2 of 0 1: v3 Phi v0 v2 int, | v4 PrintInt v3, return`, 7},
		{"var a int; if h() { a = 1; } else { a = 2; } print(a);", `
			0: v0 Const 0 int, v1 Call 3 bool, branch v1 1 2
			1 of 0: v2 Const 1 int, jump 3
			2 of 0: v3 Const 2 int, jump 3
			3 of 1 2: v4 Phi v2 v3 int, | v5 PrintInt v4, return`, 8},
		{"var a int; if h() { } else { a = 2; } print(a);", `
			0: v0 Const 0 int, v1 Call 3 bool, branch v1 1 2
			1 of 0: jump 3
			2 of 0: v2 Const 2 int, jump 3
			3 of 1 2: v3 Phi v0 v2 int, | v4 PrintInt v3, return`, 7},
		{"var a int; if h() { a = 1; return; } print(a);", `
			0: v0 Const 0 int, v1 Call 3 bool, branch v1 1 2
			1 of 0: v2 Const 1 int, return
			2 of 0: v3 PrintInt v0, return`, 4},
		{"var a int; if h() { a = 1; } else { return; } print(a);", `
			0: v0 Const 0 int, v1 Call 3 bool, branch v1 1 2
			1 of 0: v2 Const 1 int, jump 3
			2 of 0: return
			3 of 1: v3 PrintInt v2, return`, 4},
		{"var a int; if h() { a = 1; } a = 3; print(a);", `
			0: v0 Const 0 int, v1 Call 3 bool, branch v1 1 2
			1 of 0: v2 Const 1 int, jump 2
			2 of 0 1: v3 Const 3 int, v4 PrintInt v3, return`, 5},
		{"var a int; if h() { a = 1; } if h() { print(a); } print(a);", `
			0: v0 Const 0 int, v1 Call 3 bool, branch v1 1 2
			1 of 0: v2 Const 1 int, jump 2
			2 of 0 1: v3 Phi v0 v2 int, | v4 Call 3 bool, branch v4 3 4
			3 of 2: v5 PrintInt v3, jump 4
			4 of 2 3: v6 PrintInt v3, return`, 12},
	})
	holdFirst(t, []row{
		{"func f(a int, b bool) int { if b { a = 1; } return a; }", `
			0: branch v1 1 2
			1 of 0: v2 Const 1 int, jump 2
			2 of 0 1: v3 Phi v0 v2 int, | return v3`, 6},
	})
}

func TestP1108InLoops(t *testing.T) {
	holdRows(t, []row{
		{"var a int; for h() { a = a + 1; } print(a);", `
			0: v0 Const 0 int, jump 1
			1 of 0 2: v1 Phi v0 v4 int, | v2 Call 3 bool, branch v2 2 3
			2 of 1: v3 Const 1 int, v4 Add v1 v3 int, jump 1
			3 of 1: v5 PrintInt v1, return`, 8},
		{"var a int; for { if h() { break; } a = 1; } print(a);", `
			0: v0 Const 0 int, jump 1
			1 of 0 4: v1 Phi v0 v3 int, | jump 2
			2 of 1: v2 Call 3 bool, branch v2 3 4
			3 of 2: jump 5
			4 of 2: v3 Const 1 int, jump 1
			5 of 3: v4 PrintInt v1, return`, 7},
		{"var a int; for { a = 1; if h() { break; } a = 2; } print(a);", `
			0: v0 Const 0 int, jump 1
			1 of 0 4: jump 2
			2 of 1: v1 Const 1 int, v2 Call 3 bool, branch v2 3 4
			3 of 2: jump 5
			4 of 2: v3 Const 2 int, jump 1
			5 of 3: v4 PrintInt v1, return`, 5},
		{"var a int; for h() { if h() { continue; } a = 1; } print(a);", `
			0: v0 Const 0 int, jump 1
			1 of 0 3 4: v1 Phi v0 v1 v4 int, | v2 Call 3 bool, branch v2 2 5
			2 of 1: v3 Call 3 bool, branch v3 3 4
			3 of 2: jump 1
			4 of 2: v4 Const 1 int, jump 1
			5 of 1: v5 PrintInt v1, return`, 9},
		{"var a int = 1; for { if h() { a = 2; break; } if h() { a = 3; break; } } print(a);", `
			0: v0 Const 1 int, jump 1
			1 of 0 6: jump 2
			2 of 1: v1 Call 3 bool, branch v1 3 4
			3 of 2: v2 Const 2 int, jump 7
			4 of 2: v3 Call 3 bool, branch v3 5 6
			5 of 4: v4 Const 3 int, jump 7
			6 of 4: jump 1
			7 of 3 5: v5 Phi v2 v4 int, | v6 PrintInt v5, return`, 9},
		{"var a int = 1; for h() { if h() { a = 2; continue; } if h() { a = 3; break; } } print(a);", `
			0: v0 Const 1 int, jump 1
			1 of 0 3 6: v1 Phi v0 v4 v1 int, | v2 Call 3 bool, branch v2 2 7
			2 of 1: v3 Call 3 bool, branch v3 3 4
			3 of 2: v4 Const 2 int, jump 1
			4 of 2: v5 Call 3 bool, branch v5 5 6
			5 of 4: v6 Const 3 int, jump 7
			6 of 4: jump 1
			7 of 1 5: v7 Phi v1 v6 int, | v8 PrintInt v7, return`, 14},
		{"var a int = 1; for { if h() { return; } print(a); if h() { a = 2; } }", `
			0: v0 Const 1 int, jump 1
			1 of 0 6: v1 Phi v0 v6 int, | jump 2
			2 of 1: v2 Call 3 bool, branch v2 3 4
			3 of 2: return
			4 of 2: v3 PrintInt v1, v4 Call 3 bool, branch v4 5 6
			5 of 4: v5 Const 2 int, jump 6
			6 of 4 5: v6 Phi v1 v5 int, | jump 1`, 11},
	})
}

func TestP1108InLoopsWithinLoops(t *testing.T) {
	holdRows(t, []row{
		{"var a int; for h() { for h() { a = a + 1; } } print(a);", `
			0: v0 Const 0 int, jump 1
			1 of 0 5: v1 Phi v0 v3 int, | v2 Call 3 bool, branch v2 2 6
			2 of 1: jump 3
			3 of 2 4: v3 Phi v1 v6 int, | v4 Call 3 bool, branch v4 4 5
			4 of 3: v5 Const 1 int, v6 Add v3 v5 int, jump 3
			5 of 3: jump 1
			6 of 1: v7 PrintInt v1, return`, 12},
		{"var a int; for h() { a = 1; for h() { print(a); } } print(a);", `
			0: v0 Const 0 int, jump 1
			1 of 0 5: v1 Phi v0 v3 int, | v2 Call 3 bool, branch v2 2 6
			2 of 1: v3 Const 1 int, jump 3
			3 of 2 4: v4 Call 3 bool, branch v4 4 5
			4 of 3: v5 PrintInt v3, jump 3
			5 of 3: jump 1
			6 of 1: v6 PrintInt v1, return`, 12},
		{"var a int = 1; for h() { print(a); for { a = 2; break; } }", `
			0: v0 Const 1 int, jump 1
			1 of 0 5: v1 Phi v0 v4 int, | v2 Call 3 bool, branch v2 2 6
			2 of 1: v3 PrintInt v1, jump 3
			3 of 2: jump 4
			4 of 3: v4 Const 2 int, jump 5
			5 of 4: jump 1
			6 of 1: return`, 7},
	})
}

// TestP1108Hidden: each Param and each Var is a variable of its own, whatever its name is.
func TestP1108Hidden(t *testing.T) {
	holdRows(t, []row{
		{"var a int; if h() { { var a int = 2; a = 3; } } print(a);", `
			0: v0 Const 0 int, v1 Call 3 bool, branch v1 1 2
			1 of 0: v2 Const 2 int, v3 Const 3 int, jump 2
			2 of 0 1: v4 PrintInt v0, return`, 8},
		{"var a int; { var a int = 1; if h() { a = 2; } print(a); } print(a);", `
			0: v0 Const 0 int, v1 Const 1 int, v2 Call 3 bool, branch v2 1 2
			1 of 0: v3 Const 2 int, jump 2
			2 of 0 1: v4 Phi v1 v3 int, | v5 PrintInt v4, v6 PrintInt v0, return`, 12},
		{"var a int = 1; { var a bool = h(); for a { a = h(); } } print(a);", `
			0: v0 Const 1 int, v1 Call 3 bool, jump 1
			1 of 0 2: v2 Phi v1 v3 bool, | branch v2 2 3
			2 of 1: v3 Call 3 bool, jump 1
			3 of 1: v4 PrintInt v0, return`, 10},
		{"var a int = 1; var b int = 2; for h() { if h() { var a int = b; b = a; } } print(a); print(b);", `
			0: v0 Const 1 int, v1 Const 2 int, jump 1
			1 of 0 4: v2 Call 3 bool, branch v2 2 5
			2 of 1: v3 Call 3 bool, branch v3 3 4
			3 of 2: jump 4
			4 of 2 3: jump 1
			5 of 1: v4 PrintInt v0, v5 PrintInt v1, return`, 18},
		{"for h() { var a int; for h() { a = a + 1; } print(a); }", `
			0: jump 1
			1 of 0 5: v0 Call 3 bool, branch v0 2 6
			2 of 1: v1 Const 0 int, jump 3
			3 of 2 4: v2 Phi v1 v5 int, | v3 Call 3 bool, branch v3 4 5
			4 of 3: v4 Const 1 int, v5 Add v2 v4 int, jump 3
			5 of 3: v6 PrintInt v2, jump 1
			6 of 1: return`, 9},
		{"for h() { var a int = input(); if h() { a = 1; } print(a); }", `
			0: jump 1
			1 of 0 4: v0 Call 3 bool, branch v0 2 5
			2 of 1: v1 Input int, v2 Call 3 bool, branch v2 3 4
			3 of 2: v3 Const 1 int, jump 4
			4 of 2 3: v4 Phi v1 v3 int, | v5 PrintInt v4, jump 1
			5 of 1: return`, 8},
	})
}

func TestP1109Trivial(t *testing.T) {
	holdRows(t, []row{
		{"var a int; for h() { print(a); } print(a);", `
			0: v0 Const 0 int, jump 1
			1 of 0 2: v1 Call 3 bool, branch v1 2 3
			2 of 1: v2 PrintInt v0, jump 1
			3 of 1: v3 PrintInt v0, return`, 7},
		{"var a int; if h() { print(a); } print(a);", `
			0: v0 Const 0 int, v1 Call 3 bool, branch v1 1 2
			1 of 0: v2 PrintInt v0, jump 2
			2 of 0 1: v3 PrintInt v0, return`, 7},
		{"var a int; if h() { a = a; } print(a);", `
			0: v0 Const 0 int, v1 Call 3 bool, branch v1 1 2
			1 of 0: jump 2
			2 of 0 1: v2 PrintInt v0, return`, 6},
		{"var b bool = h(); print(b && b); print(b);", `
			0: v0 Call 3 bool, branch v0 1 2
			1 of 0: jump 2
			2 of 0 1: v1 PrintBool v0, v2 PrintBool v0, return`, 9},
		{"var b bool = h(); print(b || b && b);", `
			0: v0 Call 3 bool, branch v0 4 1
			1 of 0: branch v0 2 3
			2 of 1: jump 3
			3 of 1 2: jump 4
			4 of 0 3: v1 PrintBool v0, return`, 8},
		// Two that are each other's Args are not trivial.
		{"var a int = 1; var b int = a; for h() { var c int = a; a = b; b = c; } print(a); print(b);", `
			0: v0 Const 1 int, jump 1
			1 of 0 2: v1 Phi v0 v2 int, v2 Phi v0 v1 int, | v3 Call 3 bool, branch v3 2 3
			2 of 1: jump 1
			3 of 1: v4 PrintInt v1, v5 PrintInt v2, return`, 10},
	})
}

// TestP1109BehindOthers: Phis that are trivial only when others have been taken away.
func TestP1109BehindOthers(t *testing.T) {
	holdRows(t, []row{
		{"var a int; for h() { for h() { print(a); } } print(a);", `
			0: v0 Const 0 int, jump 1
			1 of 0 5: v1 Call 3 bool, branch v1 2 6
			2 of 1: jump 3
			3 of 2 4: v2 Call 3 bool, branch v2 4 5
			4 of 3: v3 PrintInt v0, jump 3
			5 of 3: jump 1
			6 of 1: v4 PrintInt v0, return`, 11},
		{"var a int; var b int; for h() { b = a; for h() { a = b; } } print(a);", `
			0: v0 Const 0 int, v1 Const 0 int, jump 1
			1 of 0 5: v2 Call 3 bool, branch v2 2 6
			2 of 1: jump 3
			3 of 2 4: v3 Call 3 bool, branch v3 4 5
			4 of 3: jump 3
			5 of 3: jump 1
			6 of 1: v4 PrintInt v0, return`, 14},
		{"var a int = 1; var b int = a; var c int = a; for h() { a = b; b = c; } print(a);", `
			0: v0 Const 1 int, jump 1
			1 of 0 2: v1 Call 3 bool, branch v1 2 3
			2 of 1: jump 1
			3 of 1: v2 PrintInt v0, return`, 12},
		{"var a int = 1; for h() { for h() { for h() { a = a; } } } print(a);", `
			0: v0 Const 1 int, jump 1
			1 of 0 8: v1 Call 3 bool, branch v1 2 9
			2 of 1: jump 3
			3 of 2 7: v2 Call 3 bool, branch v2 4 8
			4 of 3: jump 5
			5 of 4 6: v3 Call 3 bool, branch v3 6 7
			6 of 5: jump 5
			7 of 5: jump 3
			8 of 3: jump 1
			9 of 1: v4 PrintInt v0, return`, 14},
		{"var a int = 1; for h() { for h() { if h() { break; } if h() { continue; } } if h() { break; } } print(a);", `
			0: v0 Const 1 int, jump 1
			1 of 0 11: v1 Call 3 bool, branch v1 2 12
			2 of 1: jump 3
			3 of 2 7 8: v2 Call 3 bool, branch v2 4 9
			4 of 3: v3 Call 3 bool, branch v3 5 6
			5 of 4: jump 9
			6 of 4: v4 Call 3 bool, branch v4 7 8
			7 of 6: jump 3
			8 of 6: jump 3
			9 of 3 5: v5 Call 3 bool, branch v5 10 11
			10 of 9: jump 12
			11 of 9: jump 1
			12 of 1 10: v6 PrintInt v0, return`, 20},
		{"var a int = 1; var b int; for h() { if h() { b = a; } else { b = a; } a = b; } print(a);", `
			0: v0 Const 1 int, v1 Const 0 int, jump 1
			1 of 0 5: v2 Call 3 bool, branch v2 2 6
			2 of 1: v3 Call 3 bool, branch v3 3 4
			3 of 2: jump 5
			4 of 2: jump 5
			5 of 3 4: jump 1
			6 of 1: v4 PrintInt v0, return`, 11},
		{"var a int = 1; for h() { var b int = a; for h() { b = a; } a = b; } print(a);", `
			0: v0 Const 1 int, jump 1
			1 of 0 5: v1 Call 3 bool, branch v1 2 6
			2 of 1: jump 3
			3 of 2 4: v2 Call 3 bool, branch v2 4 5
			4 of 3: jump 3
			5 of 3: jump 1
			6 of 1: v3 PrintInt v0, return`, 13},
	})
	holdFirst(t, []row{
		{"func f(a int, b bool) int { for b { if a < 0 { b = false; } } return a; }", `
			0: jump 1
			1 of 0 4: v2 Phi v1 v6 bool, | branch v2 2 5
			2 of 1: v3 Const 0 int, v4 Lt v0 v3 bool, branch v4 3 4
			3 of 2: v5 Const 0 bool, jump 4
			4 of 2 3: v6 Phi v2 v5 bool, | jump 1
			5 of 1: return v0`, 17},
	})
}

// TestP1111Order: Phis stand in the order of their variables' declaration, whatever order they are asked in.
func TestP1111Order(t *testing.T) {
	holdRows(t, []row{
		{"var a int; var b int; for h() { print(b); print(a); a = input(); b = input(); }", `
			0: v0 Const 0 int, v1 Const 0 int, jump 1
			1 of 0 2: v2 Phi v0 v7 int, v3 Phi v1 v8 int, | v4 Call 3 bool, branch v4 2 3
			2 of 1: v5 PrintInt v3, v6 PrintInt v2, v7 Input int, v8 Input int, jump 1
			3 of 1: return`, 13},
		{"var b int; { var a int; for h() { print(a); print(b); a = input(); b = input(); } }", `
			0: v0 Const 0 int, v1 Const 0 int, jump 1
			1 of 0 2: v2 Phi v0 v8 int, v3 Phi v1 v7 int, | v4 Call 3 bool, branch v4 2 3
			2 of 1: v5 PrintInt v3, v6 PrintInt v2, v7 Input int, v8 Input int, jump 1
			3 of 1: return`, 13},
		{"var a int; var b int; var c int; for h() { print(c); print(b); print(a); a = input(); c = input(); }", `
			0: v0 Const 0 int, v1 Const 0 int, v2 Const 0 int, jump 1
			1 of 0 2: v3 Phi v0 v9 int, v4 Phi v2 v10 int, | v5 Call 3 bool, branch v5 2 3
			2 of 1: v6 PrintInt v4, v7 PrintInt v1, v8 PrintInt v3, v9 Input int, v10 Input int, jump 1
			3 of 1: return`, 18},
		{"var a bool; var b []int; var c int; if h() { c = 1; b = make([]int, 1); a = true; } print(c); print(len(b)); print(a);", `
			0: v0 Const 0 bool, v1 Const 0 []int, v2 Const 0 int, v3 Call 3 bool, branch v3 1 2
			1 of 0: v4 Const 1 int, v5 Const 1 int, v6 TrapNeg 4 v5, v7 Alloc v5 []int, v8 Const 1 bool, jump 2
			2 of 0 1: v9 Phi v0 v8 bool, v10 Phi v1 v7 []int, v11 Phi v2 v4 int, | v12 PrintInt v11, v13 Len v10 int, v14 PrintInt v13, v15 PrintBool v9, return`, 22},
		{"var a int; if h() { a = 1; } else { var b int; if h() { b = 2; } a = b; } print(a);", `
			0: v0 Const 0 int, v1 Call 3 bool, branch v1 1 2
			1 of 0: v2 Const 1 int, jump 5
			2 of 0: v3 Const 0 int, v4 Call 3 bool, branch v4 3 4
			3 of 2: v5 Const 2 int, jump 4
			4 of 2 3: v6 Phi v3 v5 int, | jump 5
			5 of 1 4: v7 Phi v2 v6 int, | v8 PrintInt v7, return`, 13},
	})
	holdFirst(t, []row{
		{"func f(a int, b int, c bool) int { var d int = a; for c { d = d + b; b = a; a = d; c = a < b; } return a; }", `
			0: jump 1
			1 of 0 2: v3 Phi v0 v7 int, v4 Phi v1 v3 int, v5 Phi v2 v8 bool, v6 Phi v0 v7 int, | branch v5 2 3
			2 of 1: v7 Add v6 v4 int, v8 Lt v7 v3 bool, jump 1
			3 of 1: return v3`, 17},
	})
}
