package r16_test

import (
	"strconv"
	"strings"
	"testing"

	"quern/api"
	"quern/sample"
)

// TestP2103MainsFrame: a stack just as great as Main's frame, and one word smaller.
func TestP2103MainsFrame(t *testing.T) {
	for _, frame := range []int{2, 3, 7, 1 << 20, api.MaxStack - 1, api.MaxStack} {
		c := sample.Code("f() frame 9\n0: ret\nmain()\n1: ldi r0 4; outi r0; ret")
		c.Funcs[1].Frame = frame
		for _, stack := range []int{frame, min(frame+1, api.MaxStack), api.MaxStack} {
			if no := sample.Hold(func() sample.Machine { return start(t, c, nil, api.Limits{Stack: stack}) }, "4 exit 3 0 1"); no != "" {
				t.Errorf("a frame of %d words, a stack of %d: %s", frame, stack, no)
			}
		}
		for _, stack := range []int{frame - 1, frame / 2, 1, 0} {
			m := start(t, c, nil, api.Limits{Stack: stack})
			if is := told(m.Outcome()); is != "panic stack 0 0 0" {
				t.Errorf("a frame of %d words, a stack of %d: %s", frame, stack, is)
			}
			if no := sample.HoldEnd(m, "panic stack 0 0 0"); no != "" {
				t.Errorf("a frame of %d words, a stack of %d: %s", frame, stack, no)
			}
		}
	}
	// It is Main's, not the first function's, nor the one's that is called main.
	c := sample.Code("main() frame 9\n0: ret\nf() frame 3\n1: ret\ng() frame 20\n2: ret")
	c.Main = 1
	if o, _ := start(t, c, nil, api.Limits{Stack: 3}).Run(9); told(o) != "exit 1 0 1" {
		t.Errorf("Main is the second function: %s", told(o))
	}
}

// TestP2104AsDeepAsTheStack: calls that are as deep as the stack lets them be, and one deeper.
func TestP2104AsDeepAsTheStack(t *testing.T) {
	for _, frames := range [][2]int{{2, 2}, {2, 4}, {5, 3}, {3, 100}, {1 << 30, 1 << 20}, {2, api.MaxStack / 8}} {
		for deep := range 6 { // activations of down
			c := sample.Code(`main()
				0: inp r0; call down; outi r1; ret
				down(1)
				4: ldi r2 1; sub r0 r0 r2; bz r0 8; call down; add r1 r1 r2; ret`)
			c.Funcs[0].Frame, c.Funcs[1].Frame = frames[0], frames[1]
			need := frames[0] + (deep+1)*frames[1]
			ends := strconv.Itoa(deep+1) + " exit " + strconv.Itoa(6*deep+5+4) + " 0 " + strconv.Itoa(deep+2)
			fails := "panic stack " + strconv.Itoa(2+4*deep) + " 0 " + strconv.Itoa(deep+1)
			for by, want := range map[int]string{0: ends, 1: ends, frames[1]: ends, -1: fails} {
				limits := api.Limits{Stack: need + by}
				if no := sample.Hold(func() sample.Machine { return start(t, c, []int{deep + 1}, limits) }, want); no != "" {
					t.Errorf("frames %v, %d deep, a stack of %d: %s", frames, deep, limits.Stack, no)
				}
			}
		}
	}
}

func TestP2104Stacks(t *testing.T) {
	// A function that calls itself without an end, with stacks of all sizes.
	for stack := range 40 {
		for frame := 2; frame < 6; frame++ {
			c := sample.Code("main()\n0: call main; ret")
			c.Funcs[0].Frame = frame
			most := stack / frame
			want := "panic stack " + strconv.Itoa(most) + " 0 " + strconv.Itoa(most)
			if o, _ := start(t, c, nil, api.Limits{Stack: stack}).Run(100); told(o) != want {
				t.Errorf("a frame of %d words, a stack of %d: %s, want %s", frame, stack, told(o), want)
			}
		}
	}
	// It hangs on the frame of the function that is called, not of the one that calls.
	holdRows(t, api.Limits{Stack: 10}, []row{
		{"main() frame 4\n0: call f; call g; ret\nf() frame 6\n3: ret\ng() frame 7\n4: ret", nil, "panic stack 3 0 2"},
		{"main() frame 2\n0: call f; call f; ret\nf() frame 3\n3: call g; ret\ng() frame 5\n5: call h; ret\nh() frame 2\n7: ret", nil, "panic stack 3 0 3"},
		{"main() frame 2\n0: call f; call g; call h; ret\nf() frame 3\n4: call g; ret\ng() frame 5\n6: ret\nh() frame 8\n7: ret", nil, "exit 9 0 3"},
		// What was freed can be had again.
		{"main() frame 2\n0: ldi r0 5; ldi r1 1; call f; sub r0 r0 r1; bnz r0 2; ret\nf() frame 8\n6: ret", nil, "exit 23 0 2"},
	})
}

// TestP2104Registers: they are the same ones in all activations.
func TestP2104Registers(t *testing.T) {
	sets, tells, want := "", "", ""
	for r := range 16 {
		sets += "inp r" + strconv.Itoa(r) + "; "
		tells += "outi r" + strconv.Itoa(r) + "; "
		want += strconv.Itoa(r+50) + " "
	}
	var input []int
	for r := range 32 {
		input = append(input, r%16+50)
	}
	holdRows(t, wide, []row{
		{"main()\n0: " + sets + "call f; ret\nf(8)\n18: " + tells + "ret", input, want + "exit 35 0 2"},
		{"main()\n0: call f; " + tells + "ret\nf(8)\n18: " + sets + "ret", input, want + "exit 35 0 2"},
		{"main()\n0: " + sets + "call f; call f; " + tells + "ret\nf()\n35: call g; ret\ng()\n37: ret", input, want + "exit 41 0 3"},
	})
}

// TestP2104Words: what each activation finds in its frame, and what it leaves there.
func TestP2104Words(t *testing.T) {
	holdRows(t, wide, []row{
		// Words are each activation's own, while it is there.
		{`main() frame 4
		0: ldi r0 1; sts r0 2; sts r0 3; call f; lds r0 2; outi r0; lds r0 3; outi r0; ret
		f() frame 4
		9: ldi r0 2; sts r0 2; sts r0 3; call g; lds r0 2; outi r0; lds r0 3; outi r0; ret
		g() frame 4
		18: ldi r0 3; sts r0 2; sts r0 3; lds r0 2; outi r0; lds r0 3; outi r0; ret`, nil, "3 3 2 2 1 1 exit 26 0 3"},
		// What activations that have ended have left stands there still.
		{`main() frame 2
		0: ldi r0 5; call f; ldi r0 6; call f; call g; ret
		f() frame 3
		6: lds r1 2; outi r1; sts r0 2; ret
		g() frame 5
		10: lds r1 2; outi r1; lds r1 3; outi r1; lds r1 4; outi r1; ret`, nil, "0 5 6 0 0 exit 21 0 2"},
		// Also their words 0 and 1, where a frame lies otherwise: f's frame begins at 2, h's at 5, look's at 2.
		{`main() frame 2
		0: call f; call look; ret
		f() frame 3
		3: ldi r9 33; sts r9 2; ldi r9 0; call h; ret
		h() frame 2
		8: ret
		look() frame 9
		9: lds r1 2; outi r1; lds r1 3; outi r1; lds r1 4; outi r1; lds r1 5; outi r1; lds r1 8; outi r1; ret`, nil, "33 7 2 0 0 exit 20 0 3"},
		// An activation's own words 0 and 1 are written over what was left there, and left there in turn.
		{`main() frame 2
		0: call wide; call two; call wide; ret
		wide() frame 6
		4: lds r1 2; outi r1; lds r1 3; outi r1; lds r1 4; outi r1; lds r1 5; outi r1; ldi r1 9; sts r1 2; sts r1 3; sts r1 4; sts r1 5; ret
		two() frame 2
		18: call two2; ret
		two2() frame 2
		20: call two3; ret
		two3() frame 2
		22: ret`, nil, "0 0 0 0 19 2 21 4 exit 37 0 4"},
	})
}

// TestP2104GoesOn: the one that called goes on behind its call, wherever that stands.
func TestP2104GoesOn(t *testing.T) {
	holdRows(t, wide, []row{
		{"main()\n0: call f; outi r0; call f; outi r0; call f; call f; outi r0; ret\nf()\n8: ldi r1 1; add r0 r0 r1; ret", nil, "1 2 4 exit 20 0 2"},
		{"f()\n0: ldi r0 1; outi r0; ret\nmain()\n3: call f; call g; call f; ret\ng()\n7: call f; ldi r0 2; outi r0; call f; ret", nil, "1 1 2 1 1 exit 21 0 3"},
		// A call as the first instruction of a function, and ahead of a jump.
		{"main()\n0: jmp 3; outi r0; ret; call f; jmp 1\nf()\n5: ldi r0 3; ret", nil, "3 exit 7 0 2"},
		// Main called by main: only the activation with which the run began ends it.
		{"main()\n0: inp r0; outi r0; bz r0 4; call main; ret", []int{2, 1, 0, 5}, "2 1 0 exit 14 0 3"},
		{"main()\n0: inp r0; outi r0; bz r0 5; call main; call main; ret", []int{1, 0, 1, 0, 0, 9}, "1 0 1 0 0 exit 24 0 3"},
		{"main()\n0: call f; ldi r0 1; outi r0; ret\nf()\n4: inp r0; bz r0 9; call main; ldi r0 2; outi r0; ret", []int{1, 0}, "1 2 1 exit 17 0 4"},
		// A run ends within calls.
		{"main()\n0: outi r0; call f; outi r0; ret\nf()\n4: ldi r0 3; outi r0; call g; ret\ng()\n8: trap r0 6", nil, "0 3 panic user 3 6 0 3"},
		{"main()\n0: call f; ret\nf()\n2: call g; ret\ng()\n4: div r0 r0 r0; ret", nil, "stuck zero 3 0 3"},
		{"main()\n0: call f; ret\nf()\n2: alloc r1 r0; alloc r2 r1; call g; ret\ng()\n6: len r3 r2; outi r3; ldi r3 4; len r3 r3; ret", nil, "1 stuck block 8 3 3"},
	})
}

func TestP2104CallsThatCallThemselves(t *testing.T) {
	const sum = `main() frame 2
		0: inp r0; call sum; outi r1; ret
		sum(1) frame 3
		4: bnz r0 7; ldi r1 0; ret; sts r0 2; ldi r2 1; sub r0 r0 r2; call sum; lds r0 2; add r1 r1 r0; ret`
	holdRows(t, api.Limits{Stack: 2 + 11*3}, []row{
		{sum, []int{0}, "0 exit 7 0 2"},
		{sum, []int{1}, "1 exit 15 0 3"},
		{sum, []int{10}, "55 exit 87 0 12"},
		{sum, []int{11}, "panic stack 57 0 12"},
		// Without its word it would tell something else.
		{strings.Replace(sum, "lds r0 2", "lds r2 2", 1), []int{10}, "0 exit 87 0 12"},
	})
	const fib = `main() frame 2
		0: ldi r0 7; call fib; outi r0; ret
		fib(1) frame 4
		4: ldi r1 2; lt r2 r0 r1; bz r2 8; ret; sts r0 2; ldi r1 1; sub r0 r0 r1; call fib; sts r0 3; lds r0 2; ldi r1 2; sub r0 r0 r1; call fib; lds r1 3; add r0 r0 r1; ret`
	holdRows(t, api.Limits{Stack: 2 + 4*7}, []row{{fib, nil, "13 exit 388 0 8"}})
	holdRows(t, api.Limits{Stack: 2 + 4*7 - 1}, []row{{fib, nil, "panic stack 44 0 7"}})
	// Two functions in turns.
	const even = `main() frame 2
		0: inp r0; ldi r1 1; call even; outb r2; ret
		even(1) frame 2
		5: bnz r0 8; ldi r2 1; ret; sub r0 r0 r1; call odd; ret
		odd(1) frame 3
		11: bnz r0 14; ldi r2 0; ret; sub r0 r0 r1; call even; ret`
	holdRows(t, api.Limits{Stack: 2 + 2 + 3 + 2 + 3}, []row{
		{even, []int{0}, "true exit 8 0 2"},
		{even, []int{1}, "false exit 12 0 3"},
		{even, []int{2}, "true exit 16 0 4"},
		{even, []int{3}, "false exit 20 0 5"},
		{even, []int{4}, "panic stack 15 0 5"},
	})
}
