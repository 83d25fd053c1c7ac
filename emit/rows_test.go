package emit_test

import (
	"strings"
	"testing"

	"quern/api"
	"quern/sample"
)

// row is a function f, the first one of a program, by its head and its blocks; and its frame and instructions.
type row struct {
	what, text string
	frame      int
	want       string
}

// beside are functions that f may call.
const beside = `one(r0) int
	0: return r0
	give() int
	0: return r0
	none()
	0: return
	two(r0, r1)
	0: return
	eight(r0, r1, r2, r3, r4, r5, r6, r7) int
	0: return r0
	main()
	0: return`

func holdRows(t *testing.T, rows []row) {
	t.Helper()
	for _, r := range rows {
		c := hold(t, sample.ALIR(r.text+"\n"+beside))
		line := strings.Split(sample.TellCode(c), "\n")[1]
		if is := strings.TrimPrefix(line, "0: "); is != r.want || c.Funcs[0].Frame != r.frame {
			t.Errorf("%s: frame %d, %s, want %d, %s", r.what, c.Funcs[0].Frame, is, r.frame, r.want)
		}
	}
}

// inF are rows whose texts are instructions of a function with two slots, which then returns; their frames are of four words.
func inF(rows []row) []row {
	for i := range rows {
		r := &rows[i]
		r.text, r.frame, r.want = "f() slots 2\n0: "+r.text+"; return", max(r.frame, 4), r.want+"; ret"
	}
	return rows
}

func TestP2302Frames(t *testing.T) {
	const all = "f(s1, r0) slots 3\n0: call none save 1 4; jump 1\n1: call none; call none save 4 7; s0 move s2; return"
	holdRows(t, []row{
		{"none", "f()\n0: return", 2, "ret"},
		{"slots that nobody names", "f() slots 5\n0: return", 7, "ret"},
		{"as many slots as there may be", "f() slots 262144\n0: s262143 move s0; return", 262146, "lds r8 2; sts r8 262145; ret"},
		{"one saved", "f()\n0: call none save 0; return", 3, "sts r0 2; call none; lds r0 2; ret"},
		{"the last one saved", "f()\n0: call none save 7; return", 3, "sts r7 2; call none; lds r7 2; ret"},
		{"slots behind what is saved", "f() slots 2\n0: call none save 5; s0 move r5; s1 move r5; return", 5, "sts r5 2; call none; lds r5 2; sts r5 3; sts r5 4; ret"},
		{"in several calls and blocks", all, 8, "sts r0 6; mov r0 r1; sts r1 2; sts r4 3; call none; lds r1 2; lds r4 3; call none; sts r4 3; sts r7 4; call none; lds r4 3; lds r7 4; lds r8 7; sts r8 5; ret"},
		{"saved in a block that nobody leads to", "f() slots 1\n0: print s0; return\n1: call none save 3; jump 1", 4, "lds r8 3; outi r8; ret; sts r3 2; call none; lds r3 2; jmp 3"},
		{"one by each call, falling", "f() slots 1\n0: call none save 2; call none save 1; call none save 0; print s0; return", 6,
			"sts r2 4; call none; lds r2 4; sts r1 3; call none; lds r1 3; sts r0 2; call none; lds r0 2; lds r8 5; outi r8; ret"},
		{"all", "f() slots 1\n0: call none save 0 1 2 3 4 5 6 7; print s0; return", 11,
			"sts r0 2; sts r1 3; sts r2 4; sts r3 5; sts r4 6; sts r5 7; sts r6 8; sts r7 9; call none; lds r0 2; lds r1 3; lds r2 4; lds r3 5; lds r4 6; lds r5 7; lds r6 8; lds r7 9; lds r8 10; outi r8; ret"},
	})
}

func TestP2304Registers(t *testing.T) {
	holdRows(t, inF([]row{
		{"", "r3 const 9223372036854775807", 0, "ldi r3 9223372036854775807"},
		{"", "r3 const -9223372036854775808", 0, "ldi r3 -9223372036854775808"},
		{"", "r3 const 0", 0, "ldi r3 0"},
		{"", "r3 add r1 r2", 0, "add r3 r1 r2"},
		{"", "r3 sub r1 r2", 0, "sub r3 r1 r2"},
		{"", "r3 mul r1 r2", 0, "mul r3 r1 r2"},
		{"", "r3 div r1 r2", 0, "div r3 r1 r2"},
		{"", "r3 rem r1 r2", 0, "rem r3 r1 r2"},
		{"", "r3 and r1 r2", 0, "and r3 r1 r2"},
		{"", "r3 or r1 r2", 0, "or r3 r1 r2"},
		{"", "r3 xor r1 r2", 0, "xor r3 r1 r2"},
		{"", "r3 bic r1 r2", 0, "bic r3 r1 r2"},
		{"", "r3 shl r1 r2", 0, "shl r3 r1 r2"},
		{"", "r3 shr r1 r2", 0, "shr r3 r1 r2"},
		{"", "r3 eq r1 r2", 0, "eq r3 r1 r2"},
		{"", "r3 ne r1 r2", 0, "ne r3 r1 r2"},
		{"", "r3 lt r1 r2", 0, "lt r3 r1 r2"},
		{"", "r3 le r1 r2", 0, "le r3 r1 r2"},
		{"", "r3 neg r1", 0, "neg r3 r1"},
		{"", "r3 inv r1", 0, "inv r3 r1"},
		{"", "r3 not r1", 0, "not r3 r1"},
		{"", "r3 len r1", 0, "len r3 r1"},
		{"", "r3 alloc r1", 0, "alloc r3 r1"},
		{"", "r3 load r1 r2", 0, "ldx r3 r1 r2"},
		{"", "store r1 r2 r3", 0, "stx r3 r1 r2"},
		{"", "r7 input", 0, "inp r7"},
		{"", "print r7", 0, "outi r7"},
		{"", "printbool r7", 0, "outb r7"},
		{"", "trapzero 1 r7", 0, "trapz r7 1"},
		{"", "trapzero 5 r0", 0, "trapz r0 5"},
		{"", "trapneg 3 r7", 0, "trapn r7 3"},
		{"", "trapbound 2 r6 r7", 0, "trapu r6 r7 2"},
		{"one register for all", "r0 add r0 r0", 0, "add r0 r0 r0"},
		{"one register for all", "r7 sub r7 r7", 0, "sub r7 r7 r7"},
	}))
}

func TestP2304Slots(t *testing.T) {
	holdRows(t, inF([]row{
		{"", "s0 const -3", 0, "ldi r8 -3; sts r8 2"},
		{"", "s1 input", 0, "inp r8; sts r8 3"},
		{"", "s0 add s0 s1", 0, "lds r8 2; lds r9 3; add r8 r8 r9; sts r8 2"},
		{"", "s1 sub s0 s0", 0, "lds r8 2; lds r9 2; sub r8 r8 r9; sts r8 3"},
		{"", "r1 div s0 r2", 0, "lds r8 2; div r1 r8 r2"},
		{"", "r1 rem r2 s0", 0, "lds r9 2; rem r1 r2 r9"},
		{"", "s0 shl r1 r2", 0, "shl r8 r1 r2; sts r8 2"},
		{"", "s0 shr r1 s1", 0, "lds r9 3; shr r8 r1 r9; sts r8 2"},
		{"", "s0 neg s1", 0, "lds r8 3; neg r8 r8; sts r8 2"},
		{"", "s0 inv r1", 0, "inv r8 r1; sts r8 2"},
		{"", "r0 not s1", 0, "lds r8 3; not r0 r8"},
		{"", "s0 len s0", 0, "lds r8 2; len r8 r8; sts r8 2"},
		{"", "s0 alloc s1", 0, "lds r8 3; alloc r8 r8; sts r8 2"},
		{"", "s0 load r1 s1", 0, "lds r9 3; ldx r8 r1 r9; sts r8 2"},
		{"", "r0 load s1 s0", 0, "lds r8 3; lds r9 2; ldx r0 r8 r9"},
		{"", "store s0 s1 s0", 0, "lds r8 2; lds r9 3; lds r10 2; stx r10 r8 r9"},
		{"", "store s0 r1 r2", 0, "lds r8 2; stx r2 r8 r1"},
		{"", "store r1 r2 s1", 0, "lds r10 3; stx r10 r1 r2"},
		{"", "print s1", 0, "lds r8 3; outi r8"},
		{"", "printbool s0", 0, "lds r8 2; outb r8"},
		{"", "trapzero 4 s1", 0, "lds r8 3; trapz r8 4"},
		{"", "trapneg 1 s1", 0, "lds r8 3; trapn r8 1"},
		{"", "trapbound 5 s0 s1", 0, "lds r8 2; lds r9 3; trapu r8 r9 5"},
		{"", "trapbound 2 r0 s1", 0, "lds r9 3; trapu r0 r9 2"},
		{"", "trapbound 2 s0 r1", 0, "lds r8 2; trapu r8 r1 2"},
	}))
}

func TestP2305Moves(t *testing.T) {
	holdRows(t, inF([]row{
		{"of a register to itself, then another", "r5 move r5; r5 move r6", 0, "mov r5 r6"},
		{"of a slot to itself, then another", "s1 move s1; s1 move s0", 0, "lds r8 2; sts r8 3"},
		{"of a register to a register", "r7 move r0", 0, "mov r7 r0"},
		{"of a register to a slot", "s1 move r7", 0, "sts r7 3"},
		{"of a slot to a register", "r7 move s1", 0, "lds r7 3"},
		{"of one number", "r0 move s0; s0 move r0", 0, "lds r0 2; sts r0 2"},
	}))
	holdRows(t, []row{{"nothing else", "f()\n0: r5 move r5; jump 0", 2, "jmp 0"}})
}

func TestP2306Parameters(t *testing.T) {
	holdRows(t, []row{
		{"where they are", "f(r0, r1, r2)\n0: return", 2, "ret"},
		{"one behind the other", "f(r1, r2)\n0: return", 2, "mov r2 r1; mov r1 r0; ret"},
		{"slots", "f(s1, s0)\n0: return", 4, "sts r0 3; sts r1 2; ret"},
		{"a slot and a register", "f(s0, r0)\n0: return", 3, "sts r0 2; mov r0 r1; ret"},
		{"a register that is free later", "f(r1, s0)\n0: return", 3, "sts r1 2; mov r1 r0; ret"},
		{"two that change places", "f(r1, r0)\n0: return", 2, "mov r11 r0; mov r0 r1; mov r1 r11; ret"},
		{"three in a circle", "f(r1, r2, r0)\n0: return", 2, "mov r11 r0; mov r0 r2; mov r2 r1; mov r1 r11; ret"},
		{"two circles, and what stays", "f(r1, r0, r2, r4, r3, r7)\n0: return", 2, "mov r7 r5; mov r11 r0; mov r0 r1; mov r1 r11; mov r11 r3; mov r3 r4; mov r4 r11; ret"},
		{"all eight in slots", "f(s7, s6, s5, s4, s3, s2, s1, s0)\n0: return", 10, "sts r0 9; sts r1 8; sts r2 7; sts r3 6; sts r4 5; sts r5 4; sts r6 3; sts r7 2; ret"},
		{"slots behind what is saved", "f(s0, r1)\n0: call none save 1 2; return", 5, "sts r0 4; sts r1 2; sts r2 3; call none; lds r1 2; lds r2 3; ret"},
		{"a block leads to the first one", "f(r1)\n0: jump 0", 2, "mov r1 r0; jmp 1"},
	})
}

func TestP2306Calls(t *testing.T) {
	holdRows(t, inF([]row{
		{"no Args", "call none", 0, "call none"},
		{"the Arg is there", "call one r0", 0, "call one"},
		{"from a register", "call one r7", 0, "mov r0 r7; call one"},
		{"from a slot", "call one s1", 0, "lds r0 3; call one"},
		{"one Arg twice", "call two r5 r5", 0, "mov r0 r5; mov r1 r5; call two"},
		{"one slot twice", "call two s0 s0", 0, "lds r0 2; lds r1 2; call two"},
		{"the first one twice", "call two r0 r0", 0, "mov r1 r0; call two"},
		{"the second one twice", "call two r1 r1", 0, "mov r0 r1; call two"},
		{"two that change places", "call two r1 r0", 0, "mov r11 r1; mov r1 r0; mov r0 r11; call two"},
		{"eight", "call eight r1 r2 r3 r4 r5 r6 r7 s0", 0, "mov r0 r1; mov r1 r2; mov r2 r3; mov r3 r4; mov r4 r5; mov r5 r6; mov r6 r7; lds r7 2; call eight"},
		{"eight in a circle", "call eight r1 r2 r3 r4 r5 r6 r7 r0", 0, "mov r11 r1; mov r1 r2; mov r2 r3; mov r3 r4; mov r4 r5; mov r5 r6; mov r6 r7; mov r7 r0; mov r0 r11; call eight"},
		{"a Dst", "r5 call give", 0, "call give; mov r8 r0; mov r5 r8"},
		{"the register in which it is", "r0 call give", 0, "call give; mov r8 r0; mov r0 r8"},
		{"a slot", "s1 call give", 0, "call give; mov r8 r0; sts r8 3"},
		{"a slot that is an Arg", "s1 call one s1", 0, "lds r0 3; call one; mov r8 r0; sts r8 3"},
		{"a result that nobody wants", "call give", 0, "call give"},
	}))
	holdRows(t, []row{
		{"a Dst that is saved", "f()\n0: r0 call give save 0; return", 3, "sts r0 2; call give; mov r8 r0; lds r0 2; mov r0 r8; ret"},
		{"a Dst in a slot", "f() slots 2\n0: s1 call give save 6; return", 5, "sts r6 2; call give; mov r8 r0; lds r6 2; sts r8 4; ret"},
		{"Args that are saved", "f() slots 1\n0: r2 call one r1 save 0 1; return", 5, "sts r0 2; sts r1 3; mov r0 r1; call one; mov r8 r0; lds r0 2; lds r1 3; mov r2 r8; ret"},
		{"saved, with no Dst", "f()\n0: call give save 1; return", 3, "sts r1 2; call give; lds r1 2; ret"},
		{"two calls with unlike Saves", "f()\n0: call none save 3; r1 call one r3 save 1; return", 4, "sts r3 3; call none; lds r3 3; sts r1 2; mov r0 r3; call one; mov r8 r0; lds r1 2; mov r1 r8; ret"},
		{"of itself, in a circle", "f(r1, r0) int\n0: r1 call f r0 r1; return r1", 2, "mov r11 r0; mov r0 r1; mov r1 r11; call f; mov r8 r0; mov r1 r8; mov r0 r1; ret"},
	})
	c := hold(t, sample.ALIR("f()\n0: call none; call one r0; call f; call eight r0 r1 r2 r3 r4 r5 r6 r7; call main; return\n"+beside))
	for i, want := range []int{3, 1, 0, 5, 6} {
		if x := c.Ins[i]; x.Op != api.RCall || x.N != want {
			t.Errorf("P2306: %+v, want a call of %d", x, want)
		}
	}
}

func TestP2307Jumps(t *testing.T) {
	holdRows(t, []row{
		{"to what follows", "f()\n0: jump 1\n1: return", 2, "ret"},
		{"to itself", "f()\n0: jump 0", 2, "jmp 0"},
		{"past one", "f()\n0: jump 2\n1: return\n2: jump 1", 2, "jmp 2; ret; jmp 1"},
		{"round, of blocks with no instruction", "f()\n0: jump 1\n1: jump 2\n2: jump 1", 2, "jmp 0"},
		{"from far to blocks with no instruction", "f()\n0: print r0; jump 2\n1: jump 2\n2: jump 3\n3: print r1; jump 1", 2, "outi r0; jmp 2; outi r1; jmp 2"},
		{"to the first one, which has none", "f()\n0: jump 1\n1: print r0; jump 0", 2, "outi r0; jmp 0"},
		{"to what is ahead", "f()\n0: r0 input; jump 1\n1: print r0; jump 1", 2, "inp r0; outi r0; jmp 1"},
		{"of the last one, where there is no next one", "f()\n0: return\n1: jump 0", 2, "ret; jmp 0"},
	})
}

func TestP2307Branches(t *testing.T) {
	holdRows(t, []row{
		{"the first To follows", "f()\n0: branch r3 1 2\n1: return\n2: return", 2, "bz r3 2; ret; ret"},
		{"the second To follows", "f()\n0: branch r3 2 1\n1: return\n2: return", 2, "bnz r3 2; ret; ret"},
		{"none follows", "f()\n0: branch r3 2 3\n1: return\n2: return\n3: return", 2, "bnz r3 3; jmp 4; ret; ret; ret"},
		{"both follow", "f()\n0: branch r3 1 1\n1: return", 2, "bz r3 1; ret"},
		{"both elsewhere", "f()\n0: branch r3 2 2\n1: return\n2: return", 2, "bnz r3 3; jmp 3; ret; ret"},
		{"itself and what follows", "f()\n0: branch r3 0 1\n1: return", 2, "bnz r3 0; ret"},
		{"what follows and itself", "f()\n0: branch r3 1 0\n1: return", 2, "bz r3 0; ret"},
		{"of the last one", "f()\n0: branch r0 1 0\n1: branch r0 0 1", 2, "bz r0 0; bnz r0 0; jmp 1"},
		{"on a slot", "f() slots 2\n0: branch s1 1 0\n1: branch s0 0 0", 4, "lds r8 3; bz r8 0; lds r8 2; bnz r8 0; jmp 0"},
		{"on a slot behind what is saved", "f() slots 2\n0: branch s1 1 1\n1: call none save 0 4; return", 6, "lds r8 5; bz r8 2; sts r0 2; sts r4 3; call none; lds r0 2; lds r4 3; ret"},
		{"to a block with no instruction", "f()\n0: branch r0 2 1\n1: jump 2\n2: jump 3\n3: print r0; return", 2, "bnz r0 1; outi r0; ret"},
	})
}

func TestP2307Ends(t *testing.T) {
	holdRows(t, []row{
		{"a return of what is there", "f() int\n0: return r0", 2, "ret"},
		{"a return of a register", "f() bool\n0: return r7", 2, "mov r0 r7; ret"},
		{"a return of a slot", "f() ints\n0: return s1", 4, "lds r0 3; ret"},
		{"a panic", "f()\n0: panic r0", 2, "trap r0 6"},
		{"a panic of a slot", "f()\n0: panic s1", 4, "lds r8 3; trap r8 6"},
		{"several", "f() int\n0: branch r0 1 2\n1: return r1\n2: panic r2", 2, "bz r0 3; mov r0 r1; ret; trap r2 6"},
	})
}

// TestP2303Places: places are numbers in the code, not in the function.
func TestP2303Places(t *testing.T) {
	holdWhole(t, []whole{{"three functions with jumps", `main()
		0: r0 input; branch r0 1 0
		1: call f r0; call g r0; jump 0
		f(r0)
		0: jump 1
		1: branch r0 0 2
		2: return
		g(r1)
		0: branch r1 2 1
		1: branch s0 0 0
		2: print r1; return`, `main() frame 2
		0: inp r0; bz r0 0; call f; call g; jmp 0
		f(1) frame 2
		5: bnz r0 5; ret
		g(1) frame 3
		7: mov r1 r0; bnz r1 12; lds r8 2; bnz r8 8; jmp 8
		12: outi r1; ret`}})
}
