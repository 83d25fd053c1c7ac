package alir_test

import (
	"slices"
	"strconv"
	"strings"
	"testing"

	"quern/api"
	"quern/sample"
)

// tellAll prints all registers and some slots.
const tellAll = "print r0; print r1; print r2; print r3; print r4; print r5; print r6; print r7; print s0; print s1; print s2; "

// setAll sets them to 10 and on, by way of none of them.
const setAll = "r0 const 10; r1 const 11; r2 const 12; r3 const 13; r4 const 14; r5 const 15; r6 const 16; r7 const 17; s0 const 20; s1 const 21; s2 const 22; "

func TestP1904BeginningOfActivations(t *testing.T) {
	nothing := strings.Repeat("-1 ", 11)
	holdRows(t, []row{
		{"main()\n0: " + tellAll + "return", nil, nothing + "exit 12 0 1"},
		// Whatever the one that calls has in the places of the same names.
		{"f()\n0: " + tellAll + "return\nmain()\n0: " + setAll + "call f save 0 1 2 3 4 5 6 7; return", nil, nothing + "exit 25 0 2"},
		// Whatever an earlier activation of the same function has left there.
		{"f()\n0: " + tellAll + setAll + "return\nmain()\n0: call f; call f; return", nil, nothing + nothing + "exit 49 0 2"},
		// Whatever an activation of the same function that waits has there.
		{"main()\n0: " + tellAll + setAll + "r0 input; branch r0 1 2\n1: call main; return\n2: return", []int{1, 1, 0}, strings.Repeat(nothing, 3) + "exit 77 0 3"},
		// Params are set, the others are not.
		{"f(s1, r6)\n0: " + tellAll + "return\nmain()\n0: r0 const 5; s0 const 6; call f s0 r0; return", nil, "-1 -1 -1 -1 -1 -1 5 -1 -1 6 -1 exit 16 0 2"},
		{"f(r0, r1, r2, r3, r4, r5, r6, r7)\n0: " + tellAll + "return\nmain()\n0: " + setAll + "call f r7 s0 r5 r5 s2 r1 s1 r0; return", nil, "17 20 15 15 22 11 21 10 -1 -1 -1 exit 25 0 2"},
		// What was never set is handed over as -1.
		{"f(r0, s0)\n0: print r0; print s0; return\nmain()\n0: call f s5 r5; return", nil, "-1 -1 exit 5 0 2"},
		{"f(r0) int slots 1\n0: return s0\nmain()\n0: s0 const 3; r0 call f s0; print r0; return", nil, "-1 exit 5 0 2"},
	})
}

func TestP1904ParamsAllAtOnce(t *testing.T) {
	for _, places := range [][3]string{{"r0", "r1", "r2"}, {"s0", "s1", "s2"}, {"r0", "s0", "r1"}, {"s7", "r7", "s0"}} {
		for _, order := range []struct {
			args [3]int
			want string
		}{
			{[3]int{0, 1, 2}, "1 2 3 1 2 3 "},
			{[3]int{1, 2, 0}, "1 2 3 2 3 1 "},
			{[3]int{2, 0, 1}, "1 2 3 3 1 2 "},
			{[3]int{1, 0, 2}, "1 2 3 2 1 3 "},
			{[3]int{0, 0, 1}, "1 2 3 1 1 2 "},
			{[3]int{2, 2, 2}, "1 2 3 3 3 3 "},
		} {
			// f hands its own Params over to itself once, in that order.
			a, b, c := places[0], places[1], places[2]
			args := places[order.args[0]] + " " + places[order.args[1]] + " " + places[order.args[2]]
			text := "f(" + a + ", " + b + ", " + c + ")\n0: print " + a + "; print " + b + "; print " + c + "; r5 input; branch r5 1 2\n1: call f " + args + "; return\n2: return\n" +
				"main()\n0: r0 const 1; r1 const 2; r2 const 3; call f r0 r1 r2; return"
			holdRows(t, []row{{text, []int{1, 0}, order.want + "exit 18 0 3"}})
		}
	}
}

// TestP1904Saves: what all registers and some slots hold behind a call with each list of Saves.
func TestP1904Saves(t *testing.T) {
	for set := range 256 {
		var saves []int
		want := ""
		for r := range 8 {
			if set>>r&1 == 1 {
				saves = append(saves, r)
				want += strconv.Itoa(10+r) + " "
			} else {
				want += "-1 "
			}
		}
		want += "20 21 22 "
		a := sample.ALIR("f(r3, s0) int slots 3\n0: " + setAll + "r0 const 99; s0 const 98; return r0\nmain()\n0: " + setAll + "call f r0 s0; " + tellAll + "return")
		body := a.Funcs[1].Blocks[0].Body
		body[11].Saves = saves
		if o, _ := start(t, a, nil).Run(1000); told(o) != want+"exit 38 0 2" {
			t.Errorf("Saves %v: %s, want %s", saves, told(o), want)
		}
		// A Dst is the value, whether it is saved as well or not; nothing else hangs on it.
		for dst := range 11 {
			words := strings.Fields(want)
			words[dst] = "99"
			body[11].Dst = slot(dst - 8)
			if dst < 8 {
				body[11].Dst = reg(dst)
			}
			if o, _ := start(t, a, nil).Run(1000); told(o) != strings.Join(words, " ")+" exit 38 0 2" {
				t.Errorf("Saves %v, Dst %v: %s, want %v", saves, body[11].Dst, told(o), words)
			}
		}
	}
}

func TestP1904Calls(t *testing.T) {
	holdRows(t, []row{
		// A register that is lost can be set and read again; one that is lost stays so behind a further call that saves it.
		{"f()\n0: return\nmain()\n0: r0 const 1; r1 const 2; call f save 1; print r0; print r1; call f save 0 1; print r0; print r1; r0 const 3; call f save 0; print r0; print r1; return", nil,
			"-1 2 -1 2 3 -1 exit 16 0 2"},
		// Registers are lost when the call has ended, also those that were its Args.
		{"f(r0)\n0: print r0; return\nmain()\n0: r0 const 4; call f r0; print r0; return", nil, "4 -1 exit 6 0 2"},
		// A call saves registers of the activation that calls, not of those that are called in turn.
		{"g()\n0: r0 const 50; return\nf()\n0: r0 const 5; call g; print r0; return\nmain()\n0: r0 const 1; call f save 0; print r0; return", nil, "-1 1 exit 10 0 3"},
		{"g()\n0: r0 const 50; return\nf()\n0: r0 const 5; call g save 0; print r0; return\nmain()\n0: r0 const 1; call f; print r0; return", nil, "5 -1 exit 10 0 3"},
		// A slot holds what it held, of all activations that wait.
		{"f(s0)\n0: s1 input; branch s1 1 2\n1: call f s1; jump 2\n2: print s0; print s1; return\nmain()\n0: s0 const 9; call f s0; print s0; return", []int{8, 7, 0}, "7 0 8 7 9 8 9 exit 23 0 4"},
		// A result from a slot, from a register, of what was never set; into a register, into a slot, into nothing.
		{"f(s0) int\n0: return s0\ng(r7) int\n0: return r7\nh() int slots 1\n0: return s0\nmain()\n0: r0 const 3; s0 call f r0; r1 call g s0; print s0; print r1; call g r1; r1 call h; s0 call h; print s0; print r1; print r0; return", nil,
			"3 3 -1 -1 -1 exit 17 0 2"},
		{"b(r0) bool\n0: r0 not r0; return r0\nl(s7) ints\n0: s7 alloc s7; return s7\nmain()\n0: r0 const 1; r1 call b r0; printbool r1; s2 const 6; s3 call l s2; r4 len s3; print r4; print s3; return", nil, "false 6 1 exit 13 7 2"},
		// A call that fails within.
		{"g(r0) int\n0: r1 const 10; s2 div r1 r0; return s2\nf(s0) int\n0: r0 call g s0; r0 add r0 r0; return r0\nmain()\n0: r0 input; r1 call f r0; print r1; jump 1\n1: r0 input; r1 call f r0; print r1; return", []int{5, 0}, "4 stuck zero 15 0 3"},
		{"f()\n0: r0 const 1; s1 const 3; print r0; panic s1\nmain()\n0: r0 const 2; print r0; call f save 0; print r0; return", nil, "2 1 panic user 3 7 0 2"},
		// A call ahead of the block's end, and a block that has a call alone.
		{"main()\n0: r0 const 4; jump 1\n1: r0 call f r0; branch r0 1 2\n2: print r0; return\nf(s0) int\n0: print s0; r1 const 1; s0 sub s0 r1; return s0", nil, "4 3 2 1 0 exit 28 0 2"},
		// The input and the heap are one for all activations.
		{"main()\n0: s0 input; s1 call f; s2 input; print s0; print s1; print s2; r0 const 1; r0 load s1 r0; print r0; return\nf() ints\n0: r0 input; r1 alloc r0; r2 const 1; store r1 r2 r0; return r1", []int{1, 2, 3}, "1 1 3 2 exit 15 3 2"},
	})
}

func TestP1904CallsThatCallThemselves(t *testing.T) {
	const sum = `sum(r0) int
		0: r1 const 0; r2 eq r0 r1; branch r2 1 2
		1: return r1
		2: r3 const 1; r4 sub r0 r3; r5 call sum r4 save 0; r6 add r0 r5; return r6
		main()
		0: r0 input; r1 call sum r0; print r1; return`
	slots := strings.NewReplacer("r0", "s0", "r5", "s1", "save 0", "").Replace(sum)
	lost := strings.ReplaceAll(sum, "save 0", "save 1 2 3 4 5 6 7")
	holdRows(t, []row{
		{sum, []int{0}, "0 exit 8 0 2"},
		{sum, []int{1}, "1 exit 16 0 3"},
		{sum, []int{10}, "55 exit 88 0 12"},
		{slots, []int{10}, "55 exit 88 0 12"},
		{lost, []int{10}, "-10 exit 88 0 12"},
		{`fib(r0) int
		0: r1 const 2; r2 lt r0 r1; branch r2 1 2
		1: return r0
		2: s0 const 1; r4 sub r0 s0; s5 sub r0 r1; r6 call fib r4; r7 call fib s5 save 6; r6 add r6 r7; return r6
		main()
		0: r0 const 5; r0 call fib r0 save 0; print r0; return`, nil, "5 exit 106 0 6"},
		// main called by main: only the activation with which the run began ends it.
		{`main()
		0: s0 input; print s0; r1 const 0; r1 lt r1 s0; branch r1 1 2
		1: call main; call main; print s0; jump 2
		2: return`, []int{2, 1, 0, 0, -1, 9}, "2 1 0 0 1 -1 2 exit 38 0 3"},
		{`main()
		0: call f; r0 const 1; print r0; return
		f()
		0: r0 input; branch r0 2 1
		1: return
		2: call main; r0 const 2; print r0; return`, []int{1, 0}, "1 2 1 exit 17 0 4"},
	})
}

// TestP1906 sets the registers that a call does not save, but its Args, to one number or another right ahead of it: no run hangs on it.
func TestP1906(t *testing.T) {
	d := sample.Dice(1906)
	calls, unlike := 0, 0
	for range 4000 {
		a, input := sample.DrawALIR(&d), d.Input()
		var with [2]api.ALIR
		for i := range with {
			with[i] = sample.SpacedALIR(a)
			for _, f := range with[i].Funcs {
				for b := range f.Blocks {
					n := 0
					f.Blocks[b].Body, n = littered(f.Blocks[b].Body, 1000*i+7)
					calls += n
				}
			}
		}
		m, n := start(t, with[0], input), start(t, with[1], input)
		for range 40 {
			x, _ := m.Run(10)
			y, _ := n.Run(10)
			if told(x) != told(y) {
				t.Fatalf("%s, input %v:\n%s, and\n%s", sample.TellALIR(with[0]), input, told(x), told(y))
			}
		}
		if x, _ := start(t, a, input).Run(400); len(x.Events) > 0 && x.Depth > 1 {
			unlike++
		}
	}
	if calls < 2000 || unlike < 200 {
		t.Errorf("only %d calls, %d runs that call and tell", calls, unlike)
	}
}

// littered are instructions with others ahead of each call, which set what it neither saves nor reads; and how many those are.
func littered(body []api.AIns, with int) ([]api.AIns, int) {
	var list []api.AIns
	n := 0
	for _, x := range body {
		for r := range api.Allocated {
			if x.Op == api.InsCall && !slices.Contains(x.Saves, r) && !slices.Contains(x.Args, reg(r)) {
				list = append(list, api.AIns{Op: api.InsConst, Dst: reg(r), Imm: with + r})
				n++
			}
		}
		list = append(list, x)
	}
	return list, n
}
