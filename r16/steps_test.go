package r16_test

import (
	"math"
	"strconv"
	"strings"
	"testing"

	"quern/api"
	"quern/sample"
)

func edges() []int {
	return []int{0, 1, -1, 2, -2, 3, 4, 5, 6, -7, 62, 63, 64, 65, -64, 1 << 32, -1 << 32, api.MaxHeap - 9, api.MaxHeap - 8, api.MaxHeap, 1 << 62, math.MaxInt, math.MinInt, math.MinInt + 1}
}

// choices are registers for A, B and C: each at 0 and 15, all apart, and some or all of them the same.
func choices() (list [][3]int) {
	for _, a := range []int{0, 15, 6} {
		for _, b := range []int{0, 15, 6} {
			for _, c := range []int{0, 15, 6} {
				list = append(list, [3]int{a, b, c})
			}
		}
	}
	return append(list, [3]int{15, 0, 7}, [3]int{0, 7, 15}, [3]int{7, 15, 0}, [3]int{3, 4, 5}, [3]int{14, 13, 12}, [3]int{1, 2, 1}, [3]int{2, 2, 9})
}

// among is code in which an instruction stands: ahead of it three blocks are taken, at 1, 5 and 6, of three words, none and two, all registers get a number from the input, and two words of the frame are set; behind it all registers are told, these words, the blocks' words and a further number of the input.
func among(x api.Ins) api.Code {
	const ahead = `main() frame 5
		0: ldi r0 3; alloc r1 r0; ldi r0 0; alloc r1 r0; ldi r0 2; alloc r1 r0; ldi r0 31; sts r0 2; ldi r0 32; sts r0 4; ldi r0 33; ldi r1 1; ldi r2 2; stx r0 r1 r2; ldi r0 34; ldi r1 6; ldi r2 0; stx r0 r1 r2
		18: `
	const behind = `lds r0 2; outi r0; lds r0 3; outi r0; lds r0 4; outi r0; ldi r1 1; ldi r2 0; ldx r0 r1 r2; outi r0; ldx r0 r1 r1; outi r0; ldi r2 2; ldx r0 r1 r2; outi r0; ldi r1 6; ldi r2 0; ldx r0 r1 r2; outi r0; ldi r2 1; ldx r0 r1 r2; outi r0; inp r0; outi r0; alloc r0 r1; outi r0; ret`
	takes, tells := "", ""
	for r := range 16 {
		takes += "inp r" + strconv.Itoa(r) + "; "
		tells += "outi r" + strconv.Itoa(r) + "; "
	}
	c := sample.Code(ahead + takes + "ret; " + tells + behind)
	c.Ins[18+16] = x
	return c
}

// TestP2101EveryInstruction does each instruction at all edges, with registers of all kinds, as the chapter says it.
func TestP2101EveryInstruction(t *testing.T) {
	all := choices()
	turn, ends := 0, map[string]int{}
	try := func(op, n int, values ...int) {
		t.Helper()
		r := all[turn%len(all)]
		turn++
		input := make([]int, 16, 18)
		for i := range input {
			input[i] = 1000 + i
		}
		x := withRegisters(api.Ins{Op: op, N: n}, r[0], r[1], r[2])
		for i := len(values) - 1; i >= 0; i-- {
			input[r[i]] = values[i]
		}
		c, input := among(x), append(input, 77, 78)
		for _, limits := range []api.Limits{wide, {Stack: 5, Heap: 15}} {
			want := oracleRun(c, input, limits, 1000, 1000)
			if is, _ := start(t, c, input, limits).Run(1000); told(is) != told(want) {
				t.Fatalf("%+v of %v, %+v: %s, want %s", x, values, limits, told(is), told(want))
			}
			ends[sample.Ending(api.Outcome{End: want.End, Kind: want.Kind})]++
		}
	}
	for _, op := range ops() {
		for _, n := range numbersOf(op) {
			switch fields := strings.Trim(table[op], " N"); len(fields) {
			case 0, 1: // no register, or one
				for _, a := range edges() {
					for range all {
						try(op, n, a)
					}
				}
			default: // of two registers B is what is wanted, of traps both, of three all
				for _, a := range edges() {
					for _, b := range edges() {
						try(op, n, 9, a, b)
						try(op, n, a, b, 2)
					}
				}
			}
		}
	}
	for _, end := range []string{"exit", "stuck block", "stuck element", "stuck zero", "stuck shift", "stuck bool", "panic heap", "panic stack", "panic divide", "panic index", "panic shift", "panic make", "panic input", "panic user 0", "running"} {
		if ends[end] == 0 {
			t.Errorf("no run ends so: %s", end)
		}
	}
	t.Log(ends)
}

// numbersOf are some N that an instruction of among may have.
func numbersOf(op int) []int {
	switch op {
	case api.RLdi:
		return edges()
	case api.RJmp, api.RBz, api.RBnz:
		return []int{34, 35, 36, 50} // itself, the next one, and others behind it
	case api.RLds, api.RSts:
		return []int{2, 3, 4}
	case api.RTrapZ, api.RTrapN, api.RTrapU:
		return []int{1, 2, 3, 4, 5}
	case api.RTrap:
		return []int{1, 2, 3, 4, 5, 6}
	}
	return []int{0}
}

// TestP2101Apart: each Op with each choice of registers, all of which hold numbers that fit.
func TestP2101Apart(t *testing.T) {
	for _, op := range ops() {
		for _, r := range choices() {
			x := withRegisters(api.Ins{Op: op, N: numbersOf(op)[0]}, r[0], r[1], r[2])
			for _, base := range []int{0, 1, 6} {
				input := make([]int, 18)
				for i := range 16 {
					input[i] = base
				}
				c := among(x)
				want := oracleRun(c, input, wide, 200, 1000)
				if is, _ := start(t, c, input, wide).Run(200); told(is) != told(want) {
					t.Fatalf("%+v of %d: %s, want %s", x, base, told(is), told(want))
				}
			}
		}
	}
}

// TestP2101Rows has what instructions do in numbers, at both sides of each bound.
func TestP2101Rows(t *testing.T) {
	holdRows(t, wide, inMain([]row{
		{"outi r0; outi r15; outb r7; ret", nil, "0 0 false exit 4 0 1"},
		{"ldi r0 -9223372036854775808; outi r0; ldi r15 9223372036854775807; outi r15; ret", nil, "-9223372036854775808 9223372036854775807 exit 5 0 1"},
		{"ldi r0 3; mov r15 r0; mov r0 r0; ldi r0 4; outi r15; outi r0; ret", nil, "3 4 exit 7 0 1"},
		{"ldi r1 9223372036854775807; add r1 r1 r1; outi r1; ret", nil, "-2 exit 4 0 1"},
		{"ldi r1 5; ldi r2 7; sub r1 r1 r2; outi r1; sub r2 r1 r2; outi r2; mul r2 r2 r2; outi r2; ret", nil, "-2 -9 81 exit 9 0 1"},
		{"ldi r1 -7; ldi r2 2; div r3 r1 r2; rem r1 r1 r2; outi r3; outi r1; ret", nil, "-3 -1 exit 7 0 1"},
		{"ldi r1 -9223372036854775808; ldi r2 -1; div r3 r1 r2; rem r4 r1 r2; outi r3; outi r4; ret", nil, "-9223372036854775808 0 exit 7 0 1"},
		{"ldi r1 12; ldi r2 10; and r3 r1 r2; outi r3; or r3 r1 r2; outi r3; xor r3 r1 r2; outi r3; bic r3 r1 r2; outi r3; ret", nil, "8 14 6 4 exit 11 0 1"},
		{"ldi r1 1; ldi r2 63; shl r3 r1 r2; outi r3; shr r3 r3 r2; outi r3; ldi r2 64; shl r4 r1 r2; shr r3 r3 r2; outi r4; outi r3; ret", nil, "-9223372036854775808 -1 0 -1 exit 12 0 1"},
		{"ldi r1 1; ldi r2 2; eq r3 r1 r2; outb r3; ne r3 r1 r2; outb r3; lt r3 r1 r2; outb r3; le r3 r2 r1; outb r3; lt r3 r1 r1; outb r3; le r3 r1 r1; outb r3; ret", nil, "false true true false false true exit 15 0 1"},
		{"ldi r0 5; ldi r1 -9223372036854775808; neg r2 r1; outi r2; neg r2 r0; outi r2; inv r2 r0; outi r2; ret", nil, "-9223372036854775808 -5 -6 exit 9 0 1"},
		// A divisor at 0 and beside it.
		{"ldi r1 6; div r2 r1 r0; outi r1; ret", nil, "stuck zero 2 0 1"},
		{"div r0 r0 r0; outi r1; ret", nil, "stuck zero 1 0 1"},
		{"rem r0 r0 r0; outi r1; ret", nil, "stuck zero 1 0 1"},
		{"ldi r1 6; rem r2 r1 r0; ret", nil, "stuck zero 2 0 1"},
		{"ldi r0 -1; ldi r1 6; rem r2 r1 r0; div r3 r1 r0; outi r2; outi r3; ret", nil, "0 -6 exit 7 0 1"},
		{"ldi r0 1; ldi r1 6; rem r2 r1 r0; div r3 r1 r0; outi r2; outi r3; ret", nil, "0 6 exit 7 0 1"},
		// A count at 0 and below it.
		{"ldi r1 6; ldi r2 0; shl r3 r1 r2; outi r3; shr r3 r1 r2; outi r3; ret", nil, "6 6 exit 7 0 1"},
		{"ldi r1 6; ldi r2 -1; shl r3 r1 r2; outi r3; ret", nil, "stuck shift 3 0 1"},
		{"ldi r1 6; ldi r2 -1; shr r3 r1 r2; outi r3; ret", nil, "stuck shift 3 0 1"},
		{"ldi r1 6; ldi r2 -9223372036854775808; shr r3 r1 r2; outi r3; ret", nil, "stuck shift 3 0 1"},
		// Bools.
		{"not r1 r0; outb r1; not r1 r1; outb r1; ldi r1 2; not r2 r1; ret", nil, "true false stuck bool 6 0 1"},
		{"ldi r1 -1; not r1 r1; ret", nil, "stuck bool 2 0 1"},
		{"ldi r1 1; outb r1; outb r0; ldi r1 2; outb r1; ret", nil, "true false stuck bool 5 0 1"},
		{"ldi r1 -1; outb r1; ret", nil, "stuck bool 2 0 1"},
		// Lengths.
		{"len r1 r0; outi r1; ldi r0 5; alloc r1 r0; len r2 r1; outi r2; outi r1; ret", nil, "0 5 1 exit 8 6 1"},
		{"ldi r0 1; len r1 r0; ret", nil, "stuck block 2 0 1"},
		{"ldi r0 -1; len r1 r0; ret", nil, "stuck block 2 0 1"},
		{"ldi r0 5; alloc r1 r0; ldi r0 2; len r1 r0; ret", nil, "stuck block 4 6 1"},
		{"ldi r0 5; alloc r1 r0; ldi r0 6; len r1 r0; ret", nil, "stuck block 4 6 1"},
		{"ldi r0 5; alloc r1 r0; ldi r0 7; len r1 r0; ret", nil, "stuck block 4 6 1"},
		{"alloc r1 r0; alloc r2 r0; outi r1; outi r2; len r1 r1; len r2 r2; outi r1; outi r2; ret", nil, "1 2 0 0 exit 9 2 1"},
		// Elements at -1, 0, the last one and one past it.
		{"ldi r0 2; alloc r1 r0; ldi r2 0; stx r0 r1 r2; ldi r2 1; ldi r3 9; stx r3 r1 r2; ldx r4 r1 r2; outi r4; ldi r2 0; ldx r1 r1 r2; outi r1; ret", nil, "9 2 exit 13 3 1"},
		{"ldi r0 2; alloc r1 r0; ldx r3 r1 r0; ret", nil, "stuck element 3 3 1"},
		{"ldi r0 2; alloc r1 r0; stx r3 r1 r0; ret", nil, "stuck element 3 3 1"},
		{"ldi r0 2; alloc r1 r0; ldi r0 -1; ldx r3 r1 r0; ret", nil, "stuck element 4 3 1"},
		{"ldi r0 2; alloc r1 r0; ldi r0 -1; stx r3 r1 r0; ret", nil, "stuck element 4 3 1"},
		{"alloc r1 r0; ldx r3 r1 r0; ret", nil, "stuck element 2 1 1"},
		{"alloc r1 r0; stx r3 r1 r0; ret", nil, "stuck element 2 1 1"},
		// No block, whatever the element is.
		{"ldx r3 r1 r0; ret", nil, "stuck block 1 0 1"},
		{"stx r3 r1 r0; ret", nil, "stuck block 1 0 1"},
		{"ldi r0 -1; ldx r3 r1 r0; ret", nil, "stuck block 2 0 1"},
		{"ldi r0 -1; stx r3 r1 r0; ret", nil, "stuck block 2 0 1"},
		{"ldi r0 2; alloc r1 r0; ldx r3 r0 r0; ret", nil, "stuck block 3 3 1"},
		{"ldi r0 2; alloc r1 r0; stx r3 r0 r0; ret", nil, "stuck block 3 3 1"},
		// RStx reads all three registers, also where they are the same.
		{"ldi r0 2; alloc r1 r0; stx r1 r1 r1; ldx r2 r1 r1; outi r2; ret", nil, "1 exit 6 3 1"},
		{"ldi r0 2; alloc r1 r0; ldx r1 r1 r1; outi r1; ret", nil, "0 exit 5 3 1"},
		// Blocks below 0 and of 0 words.
		{"alloc r0 r0; outi r0; alloc r0 r0; outi r0; ret", nil, "1 2 exit 5 3 1"},
		{"ldi r0 -1; alloc r0 r0; ret", nil, "stuck block 2 0 1"},
		{"ldi r0 -9223372036854775808; alloc r0 r0; ret", nil, "stuck block 2 0 1"},
		// The input.
		{"inp r0; inp r15; outi r15; outi r0; inp r0; ret", []int{4, 5}, "5 4 panic input 5 0 1"},
		{"inp r0; ret", nil, "panic input 1 0 1"},
		// Traps.
		{"trapn r0 1; trapz r0 4; ret", nil, "panic make 2 0 1"},
		{"ldi r0 1; trapz r0 4; trapn r0 4; ldi r0 -1; trapz r0 4; trapn r0 5; ret", nil, "panic input 6 0 1"},
		{"ldi r0 2; ldi r1 3; trapu r0 r1 2; trapu r1 r1 3; ret", nil, "panic shift 4 0 1"},
		{"ldi r0 -1; ldi r1 3; trapu r0 r1 1; ret", nil, "panic divide 3 0 1"},
		{"ldi r1 1; trapu r0 r1 2; trapu r0 r0 2; ret", nil, "panic index 3 0 1"},
		{"ldi r0 -2; ldi r1 -1; trapu r0 r1 2; ret", nil, "panic index 3 0 1"},
		{"ldi r0 9; trap r0 6", nil, "panic user 9 2 0 1"},
		{"trap r0 6", nil, "panic user 0 1 0 1"},
		{"ldi r0 9; trap r0 1", nil, "panic divide 2 0 1"},
		{"ldi r0 9; trap r0 2", nil, "panic index 2 0 1"},
		{"ldi r0 9; trap r0 3", nil, "panic shift 2 0 1"},
		{"ldi r0 9; trap r0 4", nil, "panic make 2 0 1"},
		{"ldi r0 9; trap r0 5", nil, "panic input 2 0 1"},
		// Jumps.
		{"jmp 3; outi r0; ret; ldi r0 8; jmp 1", nil, "8 exit 5 0 1"},
		{"bz r0 2; outi r0; bnz r0 4; ldi r0 1; bnz r0 6; outi r1; bz r0 5; outi r0; ret", nil, "1 exit 7 0 1"},
		{"ldi r0 -1; bz r0 3; bnz r0 4; outi r1; outi r0; ret", nil, "-1 exit 5 0 1"},
		{"ldi r0 -9223372036854775808; bz r0 3; bnz r0 4; outi r1; outi r0; ret", nil, "-9223372036854775808 exit 5 0 1"},
		// The words of a frame.
		{"lds r0 2; outi r0; ldi r0 7; sts r0 2; sts r0 5; ldi r0 8; sts r0 3; lds r0 2; outi r0; lds r1 3; outi r1; lds r1 4; outi r1; lds r15 5; outi r15; ret", nil, "0 7 8 0 7 exit 16 0 1"},
	}))
}

// TestP2101Heap: a heap with just enough words left, and one with one too few.
func TestP2101Heap(t *testing.T) {
	for _, size := range []int{0, 1, 2, 100, 1 << 30, api.MaxHeap - 4, api.MaxHeap - 3} {
		for _, ahead := range []int{0, 2} { // blocks of one word each
			text := strings.Repeat("ldi r1 0; alloc r2 r1; ", ahead) + "ldi r1 " + strconv.Itoa(size) + "; alloc r2 r1; outi r2; len r2 r2; outi r2; ret"
			whole := size + 1 + ahead
			if whole <= api.MaxHeap {
				want := strconv.Itoa(ahead+1) + " " + strconv.Itoa(size) + " exit " + strconv.Itoa(2*ahead+6) + " " + strconv.Itoa(whole) + " 1"
				for _, heap := range []int{whole, min(whole+1, api.MaxHeap), api.MaxHeap} {
					holdRows(t, api.Limits{Stack: 2, Heap: heap}, inMain([]row{{text, nil, want}}))
				}
			}
			for _, heap := range []int{whole - 1, ahead} {
				if heap >= ahead {
					want := "panic heap " + strconv.Itoa(2*ahead+2) + " " + strconv.Itoa(ahead) + " 1"
					holdRows(t, api.Limits{Stack: 2, Heap: heap}, inMain([]row{{text, nil, want}}))
				}
			}
		}
	}
	for _, size := range []int{api.MaxHeap - 1, api.MaxHeap, api.MaxHeap + 1, api.MaxWords, math.MaxInt - 1, math.MaxInt} {
		want := "panic heap 2 0 1"
		if size < api.MaxHeap {
			want = "1 exit 4 " + strconv.Itoa(api.MaxHeap) + " 1"
		}
		holdRows(t, wide, inMain([]row{{"ldi r1 " + strconv.Itoa(size) + "; alloc r2 r1; outi r2; ret", nil, want}}))
	}
	// A block below 0 is stuck, also where no word is left; one of 0 words takes one.
	holdRows(t, api.Limits{Stack: 2}, inMain([]row{
		{"ldi r1 -1; alloc r2 r1; ret", nil, "stuck block 2 0 1"},
		{"alloc r2 r1; ret", nil, "panic heap 1 0 1"},
	}))
	holdRows(t, api.Limits{Stack: 2, Heap: 1}, inMain([]row{{"alloc r2 r1; alloc r3 r1; ret", nil, "panic heap 2 1 1"}}))
	// A block that is not taken takes nothing: a smaller one behind it could be had, if the run went on.
	holdRows(t, api.Limits{Stack: 2, Heap: 5}, inMain([]row{{"ldi r1 2; alloc r2 r1; alloc r3 r1; ret", nil, "panic heap 3 3 1"}}))
}

// TestP2101FailsSetNothing: what is stuck or panics sets no register, and tells nothing: told by the number of steps and events.
func TestP2101FailsSetNothing(t *testing.T) {
	for _, x := range []struct{ text, want string }{
		{"outi r0; ldi r1 2; outb r1; outi r0; ret", "0 stuck bool 3 0 1"},
		{"outi r0; inp r0; outi r0; ret", "0 panic input 2 0 1"},
		{"outi r0; ldi r1 1099511627776; alloc r1 r1; outi r0; ret", "0 panic heap 3 0 1"},
	} {
		m := start(t, sample.Code("main()\n0: "+x.text), nil, wide)
		if no := sample.HoldEnd(m, x.want); no != "" {
			t.Errorf("%s: %s", x.text, no)
		}
	}
}

// TestP2103AllZero: registers, and the words of a frame, are 0 at the beginning.
func TestP2103AllZero(t *testing.T) {
	text := "main() frame 6\n0: "
	want := ""
	for r := range 16 {
		text += "outi r" + strconv.Itoa(r) + "; "
		want += "0 "
	}
	for word := 2; word < 6; word++ {
		text += "lds r1 " + strconv.Itoa(word) + "; outi r1; "
		want += "0 "
	}
	holdRows(t, api.Limits{Stack: 6}, []row{{text + "ret", nil, want + "exit 25 0 1"}})
}

// TestP2101EachRegister: all sixteen are places of their own, and so are the words of a frame.
func TestP2101EachRegister(t *testing.T) {
	text, want := "main() frame 40\n0: ", ""
	steps := 1
	for turn := range 2 {
		for r := range 16 {
			text += "ldi r" + strconv.Itoa((r*5+turn)%16) + " " + strconv.Itoa(100*turn+(r*5+turn)%16) + "; "
		}
		for r := range 16 {
			text += "outi r" + strconv.Itoa(r) + "; "
			want += strconv.Itoa(100*turn+r) + " "
		}
		steps += 32
	}
	for word := 2; word < 40; word++ {
		text += "ldi r0 " + strconv.Itoa(word*word) + "; sts r0 " + strconv.Itoa(word) + "; "
		steps += 2
	}
	for word := 39; word >= 2; word-- {
		text += "lds r9 " + strconv.Itoa(word) + "; outi r9; "
		want += strconv.Itoa(word*word) + " "
		steps += 2
	}
	o, _ := start(t, sample.Code(text+"ret"), nil, wide).Run(1000)
	if want += "exit " + strconv.Itoa(steps) + " 0 1"; told(o) != want {
		t.Errorf("%s, want %s", told(o), want)
	}
}
