package alloc_test

import (
	"strconv"
	"strings"
	"testing"

	"quern/api"
	"quern/sample"
)

// TestP2002Lines: which block stands where, and to where it leads.
func TestP2002Lines(t *testing.T) {
	holdRows(t, inMain([]row{
		{"one block", "0: return", "0: return"},
		{"one that leads to itself", "0: jump 0", "0: jump 0"},
		{"by both ways", "0: r3 const 1; branch r3 0 0", "0: r0 const 1; branch r0 0 0"},
		{"a chain", "0: r0 const 1; jump 1\n1: jump 2\n2: print r0; return", "0: r0 const 1; jump 1\n1: jump 2\n2: print r0; return"},
		{"a chain that goes backward", "0: r0 const 1; jump 3\n1: print r0; return\n2: jump 1\n3: jump 2", "0: r0 const 1; jump 1\n1: jump 2\n2: jump 3\n3: print r0; return"},
		{"both ways to one block", "0: r0 const 1; branch r0 1 1\n1: return", "0: r0 const 1; branch r0 1 1\n1: return"},
		{"both ways to one that stands elsewhere", "0: r0 const 1; branch r0 2 2\n1: return\n2: jump 1", "0: r0 const 1; branch r0 1 1\n1: jump 2\n2: return"},
		{"two ways that meet", "0: r0 input; branch r0 1 2\n1: r1 const 1; jump 3\n2: r1 const 2; jump 3\n3: print r1; return",
			"0: r0 input; branch r0 1 2\n1: r0 const 1; jump 3\n2: r0 const 2; jump 3\n3: print r0; return"},
		{"in another order", "0: r0 input; branch r0 3 1\n1: r1 const 1; jump 2\n2: print r1; return\n3: r1 const 2; jump 2",
			"0: r0 input; branch r0 1 2\n1: r0 const 2; jump 3\n2: r0 const 1; jump 3\n3: print r0; return"},
		{"a loop", "0: r0 input; jump 1\n1: branch r0 2 3\n2: r1 const 1; r0 sub r0 r1; jump 1\n3: return",
			"0: r0 input; jump 1\n1: branch r0 2 3\n2: r1 const 1; r0 sub r0 r1; jump 1\n3: return"},
		{"a loop whose body stands behind its exit", "0: r0 input; jump 1\n1: branch r0 3 2\n2: return\n3: r1 const 1; r0 sub r0 r1; jump 1",
			"0: r0 input; jump 1\n1: branch r0 2 3\n2: r1 const 1; r0 sub r0 r1; jump 1\n3: return"},
		{"a loop that is left by its first way: its body stands behind what follows it", "0: r0 input; jump 1\n1: branch r0 3 2\n2: r0 input; jump 1\n3: panic r0",
			"0: r0 input; jump 1\n1: branch r0 2 3\n2: panic r0\n3: r0 input; jump 1"},
		{"a loop of block 0", "0: r0 input; branch r0 0 1\n1: return", "0: r0 input; branch r0 0 1\n1: return"},
		{"a loop into the middle", "0: r0 input; branch r0 2 1\n1: r1 const 1; jump 2\n2: r1 const 2; print r1; r2 input; branch r2 1 3\n3: return",
			"0: r0 input; branch r0 2 1\n1: r0 const 1; jump 2\n2: r0 const 2; print r0; r0 input; branch r0 1 3\n3: return"},
		{"ends of all kinds", "0: r0 input; r1 input; branch r0 3 2\n1: panic r1\n2: branch r1 1 4\n3: return\n4: jump 3",
			"0: r0 input; r1 input; branch r0 4 1\n1: branch r1 2 3\n2: panic r1\n3: jump 4\n4: return"},
	}))
}

// holding is a text of main that sets registers 0 to n - 1 from the input, then does what stands between, and prints them in that order.
func holding(n int, between string, backward bool) string {
	var b strings.Builder
	b.WriteString("main()\n0:")
	for r := range n {
		b.WriteString(" r" + strconv.Itoa(r) + " input;")
	}
	b.WriteString(between)
	for r := range n {
		if backward {
			r = n - 1 - r
		}
		b.WriteString(" print r" + strconv.Itoa(r) + ";")
	}
	return b.String() + " return"
}

// TestP2002Places: registers, and slots where there are too few of them.
func TestP2002Places(t *testing.T) {
	holdRows(t, []row{
		{"no register", "main()\n0: return", "main() slots 0\n0: return"},
		{"registers that nobody names", "main() regs 262144\n0: return", "main() slots 0\n0: return"},
		{"the last one alone", "main() regs 262144\n0: r262143 const 5; print r262143; return", "main() slots 0\n0: r0 const 5; print r0; return"},
		{"eight at once", holding(8, "", false), holding(8, "", false)},
		{"eight at once, backward", holding(8, "", true), holding(8, "", true)},
		{"nine at once: that which ends last gets a slot", holding(9, "", false), strings.ReplaceAll(holding(9, "", false), "r8", "s0")},
		{"nine at once, backward: it gives its register to the ninth", holding(9, "", true),
			"main()\n0: s0 input; r1 input; r2 input; r3 input; r4 input; r5 input; r6 input; r7 input; r0 input; print r0; print r7; print r6; print r5; print r4; print r3; print r2; print r1; print s0; return"},
		{"twelve", holding(12, "", false),
			"main()\n0: r0 input; r1 input; r2 input; r3 input; r4 input; r5 input; r6 input; r7 input; s0 input; s1 input; s2 input; s3 input; print r0; print r1; print r2; print r3; print r4; print r5; print r6; print r7; print s0; print s1; print s2; print s3; return"},
		{"of one end the greatest number gets a slot", "f(r0, r1, r2, r3, r4, r5, r6, r7)\n0: r8 const 1; call f r8 r7 r6 r5 r4 r3 r2 r1; print r0; return\nmain()\n0: return",
			"f(s0, r1, r2, r3, r4, r5, r6, r7)\n0: r0 const 1; call f r0 r7 r6 r5 r4 r3 r2 r1; print s0; return\nmain()\n0: return"},
		{"a slot is nobody else's", "main()\n" + strings.TrimPrefix(strings.TrimSuffix(holding(9, "", false), " return"), "main()\n") + strings.TrimPrefix(holding(9, "", false), "main()\n0:"),
			strings.ReplaceAll("main()\n"+strings.TrimPrefix(strings.TrimSuffix(holding(9, "", false), " return"), "main()\n")+strings.TrimPrefix(holding(9, "", false), "main()\n0:"), "r8", "s0")},
	})
	holdRows(t, inMain([]row{
		{"one behind the other", "0: r5 const 1; print r5; r3 const 2; print r3; r1 neg r3; print r1; return", "0: r0 const 1; print r0; r0 const 2; print r0; r0 neg r0; print r0; return"},
		{"read where another one is set", "0: r0 const 1; r1 neg r0; r2 add r1 r1; print r2; return", "0: r0 const 1; r0 neg r0; r0 add r0 r0; print r0; return"},
		{"set twice", "0: r0 const 1; r1 const 2; r0 const 3; print r1; print r0; return", "0: r0 const 1; r1 const 2; r0 const 3; print r1; print r0; return"},
		{"set twice and read between: one place over all", "0: r0 const 1; print r0; r1 const 2; print r1; r0 const 3; print r0; return", "0: r0 const 1; print r0; r1 const 2; print r1; r0 const 3; print r0; return"},
		{"set and never read", "0: r0 const 1; r1 const 2; print r1; return", "0: r0 const 1; r0 const 2; print r0; return"},
		{"set at the end, never read", "0: r0 const 1; r1 const 2; print r1; r0 const 3; return", "0: r0 const 1; r1 const 2; print r1; r0 const 3; return"},
		{"read around a loop", "0: r0 const 3; r1 const 1; jump 1\n1: r2 const 5; print r2; r0 sub r0 r1; branch r0 1 2\n2: return",
			"0: r0 const 3; r1 const 1; jump 1\n1: r2 const 5; print r2; r0 sub r0 r1; branch r0 1 2\n2: return"},
		{"set around a loop, read behind it", "0: r0 const 3; r1 const 1; jump 1\n1: r2 move r0; r0 sub r0 r1; branch r0 1 2\n2: print r2; r3 const 7; print r3; return",
			"0: r0 const 3; r1 const 1; jump 1\n1: r2 move r0; r0 sub r0 r1; branch r0 1 2\n2: print r2; r0 const 7; print r0; return"},
		{"set in a loop and read there: free behind it", "0: r0 input; branch r0 1 2\n1: r1 input; print r1; branch r1 1 2\n2: r2 const 1; print r2; return",
			"0: r0 input; branch r0 1 2\n1: r0 input; print r0; branch r0 1 2\n2: r0 const 1; print r0; return"},
	}))
}

// TestP2002Params: all are set at the beginning, read or not.
func TestP2002Params(t *testing.T) {
	const main = "\nmain()\n0: return"
	holdRows(t, []row{
		{"that nobody reads", "f(r1, r0)\n0: return" + main, "f(r1, r0)\n0: return" + main},
		{"that nobody reads, and others", "f(r4, r9) int\n0: r1 const 1; r2 const 2; r3 add r1 r2; return r3" + main, "f(r0, r1) int\n0: r0 const 1; r1 const 2; r0 add r0 r1; return r0" + main},
		{"one is read", "f(r0, r1) int\n0: r2 const 1; r3 const 2; r4 add r2 r3; r5 add r4 r1; return r5" + main,
			"f(r0, r1) int\n0: r0 const 1; r2 const 2; r0 add r0 r2; r0 add r0 r1; return r0" + main},
		{"eight", "f(r7, r6, r5, r4, r3, r2, r1, r0) int\n0: r8 add r7 r0; return r8" + main, "f(r7, r6, r5, r4, r3, r2, r1, r0) int\n0: r0 add r7 r0; return r0" + main},
		{"eight that live on, and a ninth register", "f(r0, r1, r2, r3, r4, r5, r6, r7)\n0: r8 const 1; print r8; print r0; print r1; print r2; print r3; print r4; print r5; print r6; print r7; return" + main,
			"f(r0, r1, r2, r3, r4, r5, r6, s0)\n0: r7 const 1; print r7; print r0; print r1; print r2; print r3; print r4; print r5; print r6; print s0; return" + main},
		{"eight that live on, and two more", "f(r9, r8, r7, r6, r5, r4, r3, r2) int\n0: r0 const 1; r1 const 2; r0 add r0 r1; print r9; print r8; print r7; print r6; print r5; print r4; print r3; print r2; return r0" + main,
			"f(r7, r6, r5, r4, r3, r2, r1, s1) int\n0: s0 const 1; r0 const 2; s0 add s0 r0; print r7; print r6; print r5; print r4; print r3; print r2; print r1; print s1; return s0" + main},
		{"returned", "f(r3) ints\n0: return r3" + main, "f(r0) ints\n0: return r0" + main},
		{"of one type each", "f(r0) bool\n0: return r0\ng(r1, r0) int\n0: return r0\nh(r2)\n0: panic r2" + main, "f(r0) bool\n0: return r0\ng(r1, r0) int\n0: return r0\nh(r0)\n0: panic r0" + main},
		{"places that cross", "f(r1, r0) int\n0: r2 sub r1 r0; return r2\nmain()\n0: r0 input; r1 const 3; r2 call f r1 r0; print r2; return",
			"f(r1, r0) int\n0: r0 sub r1 r0; return r0\nmain()\n0: r0 input; r1 const 3; r0 call f r1 r0; print r0; return"},
		{"places that go round", "f(r0, r1, r2)\n0: print r0; print r1; print r2; branch r0 1 2\n1: call f r1 r2 r0; return\n2: return\nmain()\n0: r2 const 3; r0 const 1; r1 const 0; call f r0 r1 r2; return",
			"f(r0, r1, r2)\n0: print r0; print r1; print r2; branch r0 1 2\n1: call f r1 r2 r0; return\n2: return\nmain()\n0: r0 const 3; r1 const 1; r2 const 0; call f r1 r2 r0; return"},
		{"one register for two Args", "f(r0, r1) int\n0: r2 add r0 r1; return r2\nmain()\n0: r0 input; r0 call f r0 r0; print r0; return",
			"f(r0, r1) int\n0: r0 add r0 r1; return r0\nmain()\n0: r0 input; r0 call f r0 r0; print r0; return"},
	})
}

// TestP2002Saves: what is live behind a call, its Dst aside.
func TestP2002Saves(t *testing.T) {
	const one, none, take = "one() int\n0: r0 const 1; return r0\n", "none()\n0: return\n", "take(r0) int\n0: return r0\n"
	withAll := func(call string) string { return strings.TrimPrefix(holding(8, call, false), "main()\n") }
	rows := inMain([]row{
		{"nothing live behind it", "0: call none; return", "0: call none; return"},
		{"what it reads alone", "0: r0 input; r1 call take r0; print r1; return", "0: r0 input; r0 call take r0; print r0; return"},
		{"one", "0: r0 input; call none; print r0; return", "0: r0 input; call none save 0; print r0; return"},
		{"one of two", "0: r0 input; r1 input; print r0; call none; print r1; return", "0: r0 input; r1 input; print r0; call none save 1; print r1; return"},
		{"what it reads, and is read behind it", "0: r0 input; r1 call take r0; print r0; print r1; return", "0: r0 input; r1 call take r0 save 0; print r0; print r1; return"},
		{"read by the end of its block", "0: r0 input; call none; panic r0", "0: r0 input; call none save 0; panic r0"},
		{"read by a branch", "0: r0 input; call none; branch r0 1 1\n1: return", "0: r0 input; call none save 0; branch r0 1 1\n1: return"},
		{"read in another block", "0: r0 input; call none; jump 2\n1: print r0; return\n2: jump 1", "0: r0 input; call none save 0; jump 1\n1: jump 2\n2: print r0; return"},
		{"read on one of two ways", "0: r0 input; r1 input; call none; branch r1 1 2\n1: print r0; return\n2: return", "0: r0 input; r1 input; call none save 0 1; branch r1 1 2\n1: print r0; return\n2: return"},
		{"set again ahead of being read", "0: r0 input; print r0; call none; r0 input; print r0; return", "0: r0 input; print r0; call none; r0 input; print r0; return"},
		{"set again on one of two ways", "0: r0 input; call none; branch r0 1 2\n1: r0 input; jump 2\n2: print r0; return", "0: r0 input; call none save 0; branch r0 1 2\n1: r0 input; jump 2\n2: print r0; return"},
		{"all eight", withAll(" call none;"), withAll(" call none save 0 1 2 3 4 5 6 7;")},
		{"all eight, twice", withAll(" call none; call none;"), withAll(" call none save 0 1 2 3 4 5 6 7; call none save 0 1 2 3 4 5 6 7;")},
		{"all eight, with an Arg of them", withAll(" call take r7;"), withAll(" call take r7 save 0 1 2 3 4 5 6 7;")},
		{"all eight, one of them the Dst", withAll(" r3 call one;"), withAll(" r3 call one save 0 1 2 4 5 6 7;")},
		{"all eight, one of them the Dst and the Arg", withAll(" r7 call take r7;"), withAll(" r7 call take r7 save 0 1 2 3 4 5 6;")},
		{"a Dst that is live behind it", "0: r0 call one; print r0; return", "0: r0 call one; print r0; return"},
		{"a Dst that is live behind it, with others", "0: r0 input; r1 call one; r2 call one; print r0; print r1; print r2; return",
			"0: r0 input; r1 call one save 0; r2 call one save 0 1; print r0; print r1; print r2; return"},
		{"a Dst that held what was read", "0: r0 input; print r0; r0 call one; print r0; return", "0: r0 input; print r0; r0 call one; print r0; return"},
		{"a Dst that nobody reads", "0: r0 input; r1 call one; print r0; return", "0: r0 input; r1 call one save 0; print r0; return"},
		{"a Dst that is none, of a result", "0: r0 input; call one; print r0; return", "0: r0 input; call one save 0; print r0; return"},
		{"in a loop, what its next turn reads", "0: r0 input; r1 const 1; jump 1\n1: r0 sub r0 r1; call none; branch r0 1 2\n2: return",
			"0: r0 input; r1 const 1; jump 1\n1: r0 sub r0 r1; call none save 0 1; branch r0 1 2\n2: return"},
		{"in a loop, what each turn sets anew", "0: r0 input; jump 1\n1: r1 input; print r1; call none; branch r0 1 2\n2: return", "0: r0 input; jump 1\n1: r1 input; print r1; call none save 0; branch r0 1 2\n2: return"},
		{"at the end of a loop, what stands ahead of it there", "0: r0 input; r1 input; jump 1\n1: print r1; r0 input; branch r0 2 3\n2: r1 call take r0; call one; jump 1\n3: return",
			"0: r0 input; r1 input; jump 1\n1: print r1; r0 input; branch r0 2 3\n2: r1 call take r0; call one save 1; jump 1\n3: return"},
		{"ahead of a loop, what is read in it", "0: r0 input; r1 const 1; call none; jump 1\n1: r0 sub r0 r1; branch r0 1 2\n2: return", "0: r0 input; r1 const 1; call none save 0 1; jump 1\n1: r0 sub r0 r1; branch r0 1 2\n2: return"},
		{"main, by itself", "0: r0 input; branch r0 1 2\n1: call main; print r0; return\n2: return", "0: r0 input; branch r0 1 2\n1: call main save 0; print r0; return\n2: return"},
	})
	for i := range rows {
		rows[i].text, rows[i].want = one+none+take+rows[i].text, one+none+take+rows[i].want
	}
	holdRows(t, rows)
	holdRows(t, []row{
		{"slots outlive a call", none + holding(11, " call none;", false),
			none + "main()\n0: r0 input; r1 input; r2 input; r3 input; r4 input; r5 input; r6 input; r7 input; s0 input; s1 input; s2 input; call none save 0 1 2 3 4 5 6 7; print r0; print r1; print r2; print r3; print r4; print r5; print r6; print r7; print s0; print s1; print s2; return"},
		{"a Dst in a slot", one + strings.Replace(holding(8, " r8 call one; r9 call one;", false), "return", "print r9; print r8; return", 1),
			one + strings.Replace(holding(8, " s0 call one save 0 1 2 3 4 5 6 7; s1 call one save 0 1 2 3 4 5 6 7;", false), "return", "print s1; print s0; return", 1)},
		{"a Dst that nobody reads sends what ends last to a slot", one + holding(8, " r8 call one; r9 call one;", false),
			one + "main()\n0: r0 input; r1 input; r2 input; r3 input; r4 input; r5 input; r6 input; s0 input; r7 call one save 0 1 2 3 4 5 6; r7 call one save 0 1 2 3 4 5 6; print r0; print r1; print r2; print r3; print r4; print r5; print r6; print s0; return"},
		{"a Param in a slot", none + "f(r0, r1, r2, r3, r4, r5, r6, r7)\n0: r8 const 1; call none; print r8; print r0; print r1; print r2; print r3; print r4; print r5; print r6; print r7; return\nmain()\n0: return",
			none + "f(r0, r1, r2, r3, r4, r5, r6, s0)\n0: r7 const 1; call none save 0 1 2 3 4 5 6 7; print r7; print r0; print r1; print r2; print r3; print r4; print r5; print r6; print s0; return\nmain()\n0: return"},
		{"a function that calls itself", "f(r0) int\n0: branch r0 1 2\n1: r1 const 1; r2 sub r0 r1; r3 call f r2; r4 mul r3 r0; return r4\n2: r5 const 1; return r5\nmain()\n0: r0 input; r1 call f r0; print r1; return",
			"f(r0) int\n0: branch r0 1 2\n1: r1 const 1; r1 sub r0 r1; r1 call f r1 save 0; r0 mul r1 r0; return r0\n2: r0 const 1; return r0\nmain()\n0: r0 input; r0 call f r0; print r0; return"},
		{"two that call each other", "even(r0) bool\n0: branch r0 1 2\n1: r1 const 1; r2 sub r0 r1; r3 call odd r2; print r0; return r3\n2: r4 const 1; return r4\nodd(r0) bool\n0: branch r0 1 2\n1: r1 const 1; r0 sub r0 r1; r0 call even r0; return r0\n2: return r0\nmain()\n0: r0 input; r1 call even r0; printbool r1; return",
			"even(r0) bool\n0: branch r0 1 2\n1: r1 const 1; r1 sub r0 r1; r1 call odd r1 save 0; print r0; return r1\n2: r0 const 1; return r0\nodd(r0) bool\n0: branch r0 1 2\n1: r1 const 1; r0 sub r0 r1; r0 call even r0; return r0\n2: return r0\nmain()\n0: r0 input; r0 call even r0; printbool r0; return"},
	})
}

// TestP2002Instructions: each operation, with its Imm.
func TestP2002Instructions(t *testing.T) {
	const text = `f(r0, r1, r2) int
		0: r3 const -9223372036854775808; r4 const 9223372036854775807; r5 add r0 r3; r5 sub r0 r3; r5 mul r0 r3; r5 div r0 r3; r5 rem r0 r3; r5 and r0 r3; r5 or r0 r3; r5 xor r0 r3; r5 bic r0 r3; r5 shl r0 r3; r5 shr r0 r3; r5 eq r1 r4; r5 ne r2 r4; r5 lt r0 r3; r5 le r3 r0; r5 neg r0; r5 inv r3; r5 not r1; r5 len r2; r5 load r2 r0; store r2 r0 r3; r5 alloc r0; r5 input; r5 move r5; r6 call f r3 r4 r0; call main; print r0; printbool r1; trapzero 1 r0; trapneg 5 r3; trapbound 2 r0 r3; trapzero 4 r6; return r4
		main()
		0: return`
	with := strings.NewReplacer("r3 r4 r0;", "r3 r4 r0 save 0 1 3 4;", "call main;", "call main save 0 1 2 3 4;", "r6", "r2").Replace(text)
	holdRows(t, []row{{"all operations", text, with}})
}

// TestP2002Functions: their order, Main, names and results.
func TestP2002Functions(t *testing.T) {
	functions := []string{
		"f(r1, r0) int\n0: r3 const 1; r2 add r1 r3; branch r0 2 1\n1: return r1\n2: return r2\n",
		"g(r2, r0, r3) bool\n0: r1 len r2; r4 eq r0 r1; return r4\n",
		"h(r7, r6, r5, r4, r3, r2, r1, r0) ints\n0: r8 alloc r4; return r8\n",
		"k()\n0: r0 const 4; panic r0\n",
	}
	places := []string{
		"f(r1, r0) int\n0: r2 const 1; r2 add r1 r2; branch r0 1 2\n1: return r2\n2: return r1\n",
		"g(r1, r0, r2) bool\n0: r1 len r1; r0 eq r0 r1; return r0\n",
		"h(r7, r6, r5, r4, r3, r2, r1, r0) ints\n0: r0 alloc r4; return r0\n",
		"k()\n0: r0 const 4; panic r0\n",
	}
	const main = "main()\n0: r0 const 7; r1 const 1; r2 call f r0 r1; r3 const 0; r4 call g r3 r2 r1; call k; return\n"
	const placed = "main()\n0: r0 const 7; r1 const 1; r0 call f r0 r1 save 1; r2 const 0; r0 call g r2 r0 r1; call k; return\n"
	for at := range len(functions) + 1 {
		place := func(list []string, one string) string {
			return strings.Join(list[:at], "") + one + strings.Join(list[at:], "")
		}
		holdRows(t, []row{{"main at another place", place(functions, main), place(places, placed)}})
		if a := allocated(t, sample.LIR(place(functions, main))); a.Main != at {
			t.Errorf("P2002: Main: %d, want %d", a.Main, at)
		}
	}
	l := sample.LIR("print_()\n0: return\nmain()\n0: return")
	l.Main = 0 // whatever its name is
	if a := allocated(t, l); a.Main != 0 || a.Funcs[0].Name != "print_" || a.Funcs[1].Name != "main" || a.Funcs[0].Result != api.TypeNone {
		t.Errorf("P2002: %+v", a)
	}
}
