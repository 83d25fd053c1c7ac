package lir_test

import (
	"math"
	"strconv"
	"testing"

	"quern/api"
	"quern/sample"
)

func edges() []int {
	return []int{0, 1, -1, 2, -2, 3, -7, 62, 63, 64, 65, -63, -64, 100, 1 << 31, 1<<32 - 1, 1 << 32, 1<<32 + 1, -1 << 31, -1 << 32, 1 << 62, -1 << 62,
		math.MaxInt - 1, math.MaxInt, math.MinInt, math.MinInt + 1, 0x5555555555555555, -0x5555555555555556}
}

func TestP1405ConstAndMove(t *testing.T) {
	for _, n := range edges() {
		number := strconv.Itoa(n)
		holdRows(t, inMain([]row{
			{"0: r0 const " + number + "; print r0; return", nil, number + " exit 3 0 1"},
			{"0: r1 const " + number + "; r0 move r1; r1 const 5; r1 move r1; print r0; print r1; return", nil, number + " 5 exit 7 0 1"},
		}))
	}
	holdRows(t, inMain([]row{
		// Registers of one number in another order, set again, and moved in a circle by way of a third.
		{"0: r5 const 1; r0 const 2; r9 move r5; r5 move r0; r0 move r9; print r5; print r0; return", nil, "2 1 exit 8 0 1"},
		{"0: r0 const 1; r0 const 2; r0 const 3; print r0; return", nil, "3 exit 5 0 1"},
	}))
}

// TestP1405Arithmetic holds each operation of two numbers, and of one, at all pairs of edges.
func TestP1405Arithmetic(t *testing.T) {
	names := []string{"add", "sub", "mul", "div", "rem", "and", "or", "xor", "bic", "shl", "shr", "eq", "ne", "lt", "le"}
	for i, name := range names { // in the order of their numbers
		op := api.InsAdd + i
		l := sample.LIR("main()\n0: r0 input; r1 input; r2 " + name + " r0 r1; print r2; return")
		same := sample.LIR("main()\n0: r0 input; r1 input; r1 " + name + " r0 r1; print r1; return")
		for _, a := range edges() {
			for _, b := range edges() {
				want := ""
				switch {
				case (op == api.InsDiv || op == api.InsRem) && b == 0:
					want = "stuck zero 3 0 1"
				case (op == api.InsShl || op == api.InsShr) && b < 0:
					want = "stuck shift 3 0 1"
				default:
					want = strconv.Itoa(sample.Arithmetic(op, []int{a, b})) + " exit 5 0 1"
				}
				for _, l := range []api.LIR{l, same} {
					if o, _ := start(t, l, []int{a, b}).Run(9); told(o) != want {
						t.Errorf("%s of %d and %d: %s, want %s", name, a, b, told(o), want)
					}
				}
			}
		}
	}
	for i, name := range []string{"neg", "inv"} {
		l := sample.LIR("main()\n0: r0 input; r0 " + name + " r0; print r0; return")
		for _, a := range edges() {
			if o, _ := start(t, l, []int{a}).Run(9); told(o) != strconv.Itoa(sample.Arithmetic(api.InsNeg+i, []int{a}))+" exit 4 0 1" {
				t.Errorf("%s of %d: %s", name, a, told(o))
			}
		}
	}
	holdRows(t, inMain([]row{
		{"0: r0 const -9223372036854775808; r1 const -1; r2 div r0 r1; r3 rem r0 r1; print r2; print r3; return", nil, "-9223372036854775808 0 exit 7 0 1"},
		{"0: r0 const -7; r1 const 2; r2 div r0 r1; r3 rem r0 r1; print r2; print r3; return", nil, "-3 -1 exit 7 0 1"},
		{"0: r0 const -5; r1 const 64; r2 shr r0 r1; r3 shl r0 r1; print r2; print r3; return", nil, "-1 0 exit 7 0 1"},
		{"0: r0 const 0; r1 div r0 r0; print r0; return", nil, "stuck zero 2 0 1"},
		{"0: r0 const 0; r1 rem r0 r0; print r0; return", nil, "stuck zero 2 0 1"},
		{"0: r0 const -1; r1 shl r0 r0; print r0; return", nil, "stuck shift 2 0 1"},
		{"0: r0 const -1; r1 shr r0 r0; print r0; return", nil, "stuck shift 2 0 1"},
		// 0 divided, shifted; a count of 0: the second one alone may be no number for it.
		{"0: r0 const 0; r1 const -3; r2 div r0 r1; r3 rem r0 r1; r4 shl r1 r0; print r2; print r3; print r4; return", nil, "0 0 -3 exit 9 0 1"},
	}))
}

func TestP1405Not(t *testing.T) {
	l := sample.LIR("main()\n0: r0 input; r1 not r0; print r1; return")
	for _, a := range edges() {
		want := "stuck bool 2 0 1"
		if a == 0 || a == 1 {
			want = strconv.Itoa(1-a) + " exit 4 0 1"
		}
		if o, _ := start(t, l, []int{a}).Run(9); told(o) != want {
			t.Errorf("not of %d: %s, want %s", a, told(o), want)
		}
	}
}

func TestP1405Blocks(t *testing.T) {
	holdRows(t, inMain([]row{
		// Len: of 0; of a block; of no block.
		{"0: r0 const 0; r1 len r0; print r1; return", nil, "0 exit 4 0 1"},
		{"0: r0 const 5; r1 alloc r0; r2 const 0; r3 alloc r2; r4 len r1; r5 len r3; print r1; print r3; print r4; print r5; return", nil, "1 7 5 0 exit 11 7 1"},
		{"0: r0 const 4611686018427387903; r1 alloc r0; r2 len r1; print r2; return", nil, "4611686018427387903 exit 5 4611686018427387904 1"},
		{"0: r0 const 1; r1 len r0; print r1; return", nil, "stuck block 2 0 1"},
		{"0: r0 const -1; r1 len r0; print r1; return", nil, "stuck block 2 0 1"},
		{"0: r0 const 3; r1 alloc r0; r2 const 2; r3 len r2; print r3; return", nil, "stuck block 4 4 1"},
		{"0: r0 const 3; r1 alloc r0; r2 const 5; r3 len r2; print r3; return", nil, "stuck block 4 4 1"},
		{"0: r0 const 3; r1 alloc r0; r2 const -9223372036854775808; r3 len r2; print r3; return", nil, "stuck block 4 4 1"},
		// A block may be asked for by any number that is its address.
		{"0: r0 const 3; r1 alloc r0; r2 const 1; r3 len r2; print r3; return", nil, "3 exit 6 4 1"},
		// Load, Store.
		{"0: r0 const 2; r1 alloc r0; r2 const 0; r3 const 1; r4 load r1 r2; store r1 r3 r0; r5 load r1 r3; r6 load r1 r2; print r4; print r5; print r6; return", nil, "0 2 0 exit 12 3 1"},
		{"0: r0 const 2; r1 alloc r0; r2 alloc r0; r3 const 1; r4 const 7; r5 const 8; store r1 r3 r4; store r2 r3 r5; r6 load r1 r3; r7 load r2 r3; store r1 r3 r5; r8 load r1 r3; print r6; print r7; print r8; return", nil,
			"7 8 8 exit 16 6 1"},
		{"0: r0 const 2; r1 alloc r0; r2 const 0; store r1 r2 r0; r3 const -9; store r1 r2 r3; store r1 r2 r2; r1 load r1 r2; print r1; return", nil, "0 exit 10 3 1"},
		{"0: r0 const 4611686018427387903; r1 alloc r0; r2 const 4611686018427387902; store r1 r2 r0; r2 load r1 r2; print r2; return", nil, "4611686018427387903 exit 7 4611686018427387904 1"},
		// No block begins there: that goes first, whatever the index.
		{"0: r0 const 0; r1 load r0 r0; print r0; return", nil, "stuck block 2 0 1"},
		{"0: r0 const 0; r1 const -1; r2 load r0 r1; print r0; return", nil, "stuck block 3 0 1"},
		{"0: r0 const 0; store r0 r0 r0; print r0; return", nil, "stuck block 2 0 1"},
		{"0: r0 const 0; r1 const 9; store r0 r1 r1; print r0; return", nil, "stuck block 3 0 1"},
		{"0: r0 const 3; r1 alloc r0; r2 const 0; r3 load r2 r2; print r0; return", nil, "stuck block 4 4 1"},
		{"0: r0 const 3; r1 alloc r0; r2 const 0; store r2 r2 r2; print r0; return", nil, "stuck block 4 4 1"},
		{"0: r0 const 3; r1 alloc r0; r2 const 2; r3 const 0; r4 load r2 r3; print r0; return", nil, "stuck block 5 4 1"},
		{"0: r0 const 3; r1 alloc r0; r2 const 2; r3 const -1; r4 load r2 r3; print r0; return", nil, "stuck block 5 4 1"},
		{"0: r0 const 3; r1 alloc r0; r2 const 5; store r2 r2 r2; print r0; return", nil, "stuck block 4 4 1"},
		{"0: r0 const 3; r1 alloc r0; r2 const -1; r3 const 0; store r2 r3 r3; print r0; return", nil, "stuck block 5 4 1"},
		{"0: r0 const 3; r1 alloc r0; r2 const 9223372036854775807; r3 load r2 r2; print r0; return", nil, "stuck block 4 4 1"},
		// Beside its words.
		{"0: r0 const 3; r1 alloc r0; r2 const -1; r3 load r1 r2; print r0; return", nil, "stuck element 4 4 1"},
		{"0: r0 const 3; r1 alloc r0; r3 load r1 r0; print r0; return", nil, "stuck element 3 4 1"},
		{"0: r0 const 3; r1 alloc r0; r4 alloc r0; r2 const 4; r3 load r1 r2; print r0; return", nil, "stuck element 5 8 1"},
		{"0: r0 const 3; r1 alloc r0; r2 const 9223372036854775807; r3 load r1 r2; return", nil, "stuck element 4 4 1"},
		{"0: r0 const 3; r1 alloc r0; r2 const -9223372036854775808; r3 load r1 r2; return", nil, "stuck element 4 4 1"},
		{"0: r0 const 3; r1 alloc r0; r2 const -1; store r1 r2 r0; print r0; return", nil, "stuck element 4 4 1"},
		{"0: r0 const 3; r1 alloc r0; store r1 r0 r0; print r0; return", nil, "stuck element 3 4 1"},
		{"0: r0 const 3; r1 alloc r0; r4 alloc r0; r2 const 4; store r1 r2 r0; print r0; return", nil, "stuck element 5 8 1"},
		{"0: r0 const 0; r1 alloc r0; r2 load r1 r0; return", nil, "stuck element 3 1 1"},
		{"0: r0 const 0; r1 alloc r0; store r1 r0 r0; return", nil, "stuck element 3 1 1"},
		// Alloc.
		{"0: r0 const 0; r1 alloc r0; r2 alloc r0; print r1; print r2; return", nil, "1 2 exit 6 2 1"},
		{"0: r0 const -1; r1 alloc r0; print r0; return", nil, "stuck block 2 0 1"},
		{"0: r0 const -9223372036854775808; r1 alloc r0; print r0; return", nil, "stuck block 2 0 1"},
		{"0: r0 const 3; r1 alloc r0; r2 const -1; r3 alloc r2; print r0; return", nil, "stuck block 4 4 1"},
		{"0: r0 const 4611686018427387904; r1 alloc r0; print r0; return", nil, "panic heap 2 0 1"},
		{"0: r0 const 9223372036854775807; r1 alloc r0; print r0; return", nil, "panic heap 2 0 1"},
		{"0: r0 const 3; r1 alloc r0; r2 const 4611686018427387900; r3 alloc r2; print r0; return", nil, "panic heap 4 4 1"},
		{"0: r0 const 3; r1 alloc r0; r2 const 4611686018427387899; r3 alloc r2; r4 len r3; print r4; r5 const 0; r6 alloc r5; print r0; return", nil, "4611686018427387899 panic heap 8 4611686018427387904 1"},
		{"0: r0 const 4611686018427387903; r1 alloc r0; r2 const -1; r3 alloc r2; return", nil, "stuck block 4 4611686018427387904 1"},
	}))
}

func TestP1405InputAndPrint(t *testing.T) {
	const three = "0: r0 input; r1 input; r2 input; print r0; print r1; print r2; return"
	holdRows(t, inMain([]row{
		{three, []int{7, -8, math.MinInt}, "7 -8 -9223372036854775808 exit 7 0 1"},
		{three, []int{1, 2, 3, 4, 5}, "1 2 3 exit 7 0 1"},
		{three, []int{1, 2}, "panic input 3 0 1"},
		{three, nil, "panic input 1 0 1"},
		{"0: r0 input; print r0; r0 input; print r0; return", []int{math.MaxInt}, "9223372036854775807 panic input 3 0 1"},
		{"0: r0 const 1; print r0; printbool r0; print r0; r1 not r0; printbool r1; print r1; return", nil, "1 true 1 false 0 exit 8 0 1"},
	}))
	l := sample.LIR("main()\n0: r0 input; printbool r0; return")
	for _, a := range edges() {
		want := "stuck bool 2 0 1"
		if a == 0 || a == 1 {
			want = strconv.FormatBool(a == 1) + " exit 3 0 1"
		}
		if o, _ := start(t, l, []int{a}).Run(9); told(o) != want {
			t.Errorf("printbool of %d: %s, want %s", a, told(o), want)
		}
	}
	// The input is one for all activations.
	holdRows(t, []row{{`main()
		0: r0 input; r1 call f; r2 input; r3 call f; print r0; print r1; print r2; print r3; return
		f() int
		0: r0 input; return r0`, []int{1, 2, 3, 4, 5}, "1 2 3 4 exit 13 0 2"}})
}

func TestP1405Traps(t *testing.T) {
	kinds := []string{"", "divide", "index", "shift", "make", "input"}
	for kind := 1; kind <= 5; kind++ {
		k := strconv.Itoa(kind)
		zero := sample.LIR("main()\n0: r0 input; trapzero " + k + " r0; print r0; return")
		neg := sample.LIR("main()\n0: r0 input; trapneg " + k + " r0; print r0; return")
		bound := sample.LIR("main()\n0: r0 input; r1 input; trapbound " + k + " r0 r1; print r0; return")
		hold := func(what string, l api.LIR, springs bool, input ...int) {
			want := strconv.Itoa(input[0]) + " exit " + strconv.Itoa(3+len(input)) + " 0 1"
			if springs {
				want = "panic " + kinds[kind] + " " + strconv.Itoa(1+len(input)) + " 0 1"
			}
			if o, _ := start(t, l, input).Run(9); told(o) != want {
				t.Errorf("%s %s of %d: %s, want %s", what, k, input, told(o), want)
			}
		}
		for _, a := range edges() {
			hold("trapzero", zero, a == 0, a)
			hold("trapneg", neg, a < 0, a)
			for _, b := range edges() {
				hold("trapbound", bound, a < 0 || a >= b, a, b)
			}
		}
	}
}

func TestP1405Calls(t *testing.T) {
	holdRows(t, []row{
		// Arguments in their order; Params that stand in another order than their numbers.
		{`f(r5, r0, r3) int
		0: print r5; print r0; print r3; r0 sub r5 r3; return r0
		main()
		0: r0 const 9; r1 const 8; r2 const 7; r3 call f r0 r1 r2; print r3; r3 call f r3 r3 r0; print r3; return`, nil, "9 8 7 2 2 2 9 -7 exit 18 0 2"},
		// Eight of them; one register more than once.
		{`f(r0, r1, r2, r3, r4, r5, r6, r7)
		0: print r0; print r1; print r2; print r3; print r4; print r5; print r6; print r7; return
		main()
		0: r0 const 1; r1 const 2; r2 const 3; r3 const 4; r4 const 5; r5 const 6; r6 const 7; r7 const 8; call f r0 r1 r2 r3 r4 r5 r6 r7; call f r7 r6 r5 r4 r3 r2 r1 r0; call f r0 r0 r0 r0 r1 r1 r1 r1; return`, nil,
			"1 2 3 4 5 6 7 8 8 7 6 5 4 3 2 1 1 1 1 1 2 2 2 2 exit 39 0 2"},
		// All at once: a function that hands its own registers over to itself in a circle.
		{`main()
		0: r0 const 1; r1 const 2; r2 const 3; call f r0 r1 r2; return
		f(r0, r1, r2)
		0: print r0; print r1; print r2; r3 const 1; r4 eq r1 r3; branch r4 2 1
		1: call f r1 r2 r0; return
		2: return`, nil, "1 2 3 2 3 1 3 1 2 exit 28 0 4"},
		// Registers are each activation's own: the caller's stay, of the same function too.
		{`main()
		0: r0 const 2; r1 alloc r0; r2 const 1; call f r1 r2; r3 load r1 r2; print r3; print r0; return
		f(r1, r2)
		0: r0 const 77; store r1 r2 r0; r1 const -1; r2 const -1; return`, nil, "77 2 exit 13 3 2"},
		{`f(r0) int
		0: r1 const 10; r2 mul r0 r1; branch r0 1 2
		1: r3 const 1; r4 sub r0 r3; r5 call f r4; print r0; print r2; print r5; r5 add r2 r5; return r5
		2: return r2
		main()
		0: r0 const 2; r1 call f r0; print r0; print r1; return`, nil, "1 10 0 2 20 10 2 30 exit 31 0 4"},
		// A result that is not wanted; the Dst of a call is one of its Args; the callee's register of the same number is another one.
		{`f(r0) int
		0: r1 const 1; r0 add r0 r1; print r0; return r0
		main()
		0: r0 const 3; r1 const 50; r0 call f r0; call f r0; r0 call f r0; print r0; print r1; return`, nil, "4 5 5 5 50 exit 20 0 2"},
		{`b(r0) bool
		0: r0 not r0; return r0
		l(r7) ints
		0: r7 alloc r7; return r7
		main()
		0: r0 const 1; r1 call b r0; printbool r1; r2 const 6; r3 call l r2; r4 len r3; print r4; print r3; return`, nil, "false 6 1 exit 13 7 2"},
		// Calls in calls, and one that fails within.
		{`g(r0) int
		0: r1 const 10; r2 div r1 r0; return r2
		f(r0) int
		0: r0 call g r0; r0 add r0 r0; return r0
		main()
		0: r0 input; r1 call f r0; print r1; jump 1
		1: r0 input; r1 call f r0; print r1; return`, []int{5, 0}, "4 stuck zero 15 0 3"},
		{`f()
		0: r0 const 1; r1 const 3; print r0; panic r1
		main()
		0: r0 const 2; print r0; call f; print r0; return`, nil, "2 1 panic user 3 7 0 2"},
		// A call ahead of the block's end, and a block that has a call alone.
		{`main()
		0: r0 const 4; jump 1
		1: r0 call f r0; branch r0 1 2
		2: print r0; return
		f(r0) int
		0: print r0; r1 const 1; r0 sub r0 r1; return r0`, nil, "4 3 2 1 0 exit 28 0 2"},
	})
}

func TestP1405CallsThatCallThemselves(t *testing.T) {
	const sum = `sum(r0) int
		0: r1 const 0; r2 eq r0 r1; branch r2 1 2
		1: return r1
		2: r3 const 1; r4 sub r0 r3; r5 call sum r4; r6 add r0 r5; return r6
		main()
		0: r0 input; r1 call sum r0; print r1; return`
	holdRows(t, []row{
		{sum, []int{0}, "0 exit 8 0 2"},
		{sum, []int{1}, "1 exit 16 0 3"},
		{sum, []int{10}, "55 exit 88 0 12"},
		{`even(r0) bool
		0: r1 const 0; r2 eq r0 r1; branch r2 1 2
		1: return r2
		2: r1 const 1; r0 sub r0 r1; r0 call odd r0; return r0
		odd(r0) bool
		0: r1 const 0; r2 ne r0 r1; branch r2 2 1
		1: return r2
		2: r1 const 1; r0 sub r0 r1; r0 call even r0; return r0
		main()
		0: r0 input; r1 call even r0; printbool r1; r1 call odd r0; printbool r1; return`, []int{3}, "false true exit 56 0 5"},
		{`fib(r0) int
		0: r1 const 2; r2 lt r0 r1; branch r2 1 2
		1: return r0
		2: r3 const 1; r4 sub r0 r3; r5 sub r0 r1; r6 call fib r4; r7 call fib r5; r6 add r6 r7; return r6
		main()
		0: r0 const 5; r0 call fib r0; print r0; return`, nil, "5 exit 106 0 6"},
		// main called by main: only the activation with which the run began ends it.
		{`main()
		0: r0 input; print r0; r1 const 0; r1 lt r1 r0; branch r1 1 2
		1: call main; call main; print r0; jump 2
		2: return`, []int{2, 1, 0, 0, -1, 9}, "2 1 0 0 1 -1 2 exit 38 0 3"},
		{`main()
		0: call f; r0 const 1; print r0; return
		f()
		0: r0 input; branch r0 2 1
		1: return
		2: call main; r0 const 2; print r0; return`, []int{1, 0}, "1 2 1 exit 17 0 4"},
	})
}

func TestP1405Terms(t *testing.T) {
	const way = "0: r0 input; branch r0 1 2\n1: r1 const 1; print r1; return\n2: r1 const 0; print r1; return"
	rows := []row{
		{"0: return", nil, "exit 1 0 1"},
		{"0: jump 1\n1: jump 2\n2: return", nil, "exit 3 0 1"},
		{"0: jump 2\n1: return\n2: jump 1", nil, "exit 3 0 1"},
		{"0: r0 const 0; panic r0", nil, "panic user 0 2 0 1"},
		{"0: r0 const 3; branch r0 1 1\n1: print r0; return", nil, "3 exit 4 0 1"},
		{"0: r0 const 0; branch r0 1 1\n1: print r0; return", nil, "0 exit 4 0 1"},
		// Block 0 come to again: its registers are as they were left.
		{"0: r0 input; print r0; branch r0 0 1\n1: return", []int{5, -6, 0, 7}, "5 -6 0 exit 10 0 1"},
	}
	for _, n := range edges() {
		number := strconv.Itoa(n)
		rows = append(rows, row{"0: r0 const " + number + "; print r0; panic r0", nil, number + " panic user " + number + " 3 0 1"})
		taken := "1"
		if n == 0 {
			taken = "0"
		}
		rows = append(rows, row{way, []int{n}, taken + " exit 5 0 1"})
	}
	holdRows(t, inMain(rows))
	m := start(t, sample.LIR("main()\n0: jump 0"), nil)
	if o, err := m.Run(1 << 22); err != api.OK || told(o) != "running 4194304 0 1" {
		t.Errorf("a block that jumps to itself: %s %v", told(o), err)
	}
}
