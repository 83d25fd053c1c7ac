package alir_test

import (
	"math"
	"strconv"
	"testing"

	"quern/api"
	"quern/sample"
)

func edges() []int {
	return []int{0, 1, -1, 2, -2, 3, 4, 5, 6, -7, 62, 63, 64, 65, -64, 1 << 31, 1 << 32, -1 << 32, 1 << 62, -1 << 62, 1<<62 - 10, 1<<62 - 9,
		math.MaxInt, math.MinInt, math.MinInt + 1, 0x5555555555555555}
}

// places are of a Dst and up to three Args: registers and slots in all ways, and some of them the same.
func places() [][4]api.Loc {
	list := [][4]api.Loc{
		{reg(0), reg(0), reg(0), reg(0)}, {slot(0), slot(0), slot(0), slot(0)},
		{reg(7), reg(0), reg(7), reg(3)}, {slot(2), slot(1), slot(2), slot(0)}, {reg(1), slot(1), reg(1), slot(1)},
	}
	for way := range 16 {
		var l [4]api.Loc
		for i := range l {
			l[i] = reg(i)
			if way>>i&1 == 1 {
				l[i] = slot(i)
			}
		}
		list = append(list, l)
	}
	return list
}

// among is a program in which an instruction stands: ahead of it three blocks are taken, at 1, 5 and 6, of three words, none and two, and its Args come from the input; behind it its Dst is told, if it has one, what was set in the blocks, and one more number of the input.
func among(x api.AIns, sets bool) api.ALIR {
	a := sample.ALIR(`main() slots 9
		0: s6 const 3; s7 alloc s6; s6 const 0; s7 alloc s6; s6 const 2; s7 alloc s6; s6 const 1; s7 const 0; store s6 s6 s7; return`)
	body := &a.Funcs[0].Blocks[0].Body
	for _, p := range x.Args {
		*body = append(*body, api.AIns{Op: api.InsInput, Dst: p})
	}
	*body = append(*body, x)
	if sets {
		*body = append(*body, api.AIns{Op: api.InsPrintInt, Args: []api.Loc{x.Dst}})
	}
	const look = "main()\n0: s7 const 0; s6 const 1; s8 load s6 s7; print s8; s8 load s6 s6; print s8; s7 len s6; print s7; s6 const 6; s7 const 0; s8 load s6 s7; print s8; s8 input; print s8; s8 alloc s7; print s8; return"
	*body = append(*body, sample.ALIR(look).Funcs[0].Blocks[0].Body...)
	return a
}

// TestP1904EveryInstruction does each instruction at all edges, at places of all kinds, as chapter 14 says it.
func TestP1904EveryInstruction(t *testing.T) {
	all := places()
	turn, ends := 0, map[string]int{}
	try := func(s shape, args ...int) {
		t.Helper()
		l := all[turn%len(all)]
		turn++
		x := api.AIns{Op: s.op, Imm: s.imm, Args: append([]api.Loc{}, l[1:1+s.args]...)}
		if s.sets {
			x.Dst = l[0]
		}
		a, input := among(x, s.sets), append(args, 77, 78)
		want := oracleRun(a, input, 1000, 1000)
		m := start(t, a, input)
		if is, _ := m.Run(1000); told(is) != told(want) {
			t.Fatalf("%+v of %v: %s, want %s", x, args, told(is), told(want))
		}
		ends[sample.Ending(want)]++
	}
	for _, s := range shapes() {
		switch {
		case s.op == api.InsCall:
		case s.args == 0:
			for range all {
				try(s)
			}
		default:
			for _, a := range edges() {
				if s.args == 1 {
					for range all {
						try(s, a)
					}
					continue
				}
				for _, b := range edges() {
					if s.args == 2 {
						try(s, a, b)
						continue
					}
					for _, c := range edges() {
						try(s, a, b, c)
					}
				}
			}
		}
	}
	for _, end := range []string{"exit", "stuck block", "stuck element", "stuck zero", "stuck shift", "stuck bool", "panic heap", "panic divide", "panic index", "panic shift", "panic make", "panic input"} {
		if ends[end] == 0 {
			t.Errorf("no run ends so: %s", end)
		}
	}
}

// TestP1904Rows has what some instructions do in numbers.
func TestP1904Rows(t *testing.T) {
	holdRows(t, inMain([]row{
		{"0: r0 const -9223372036854775808; print r0; s0 const 9223372036854775807; print s0; return", nil, "-9223372036854775808 9223372036854775807 exit 5 0 1"},
		{"0: r0 const 3; s0 move r0; r1 move s0; s1 move s0; r0 move r0; r0 const 4; print s0; print r1; print s1; print r0; return", nil, "3 3 3 4 exit 11 0 1"},
		{"0: s0 const -7; r1 const 2; r2 div s0 r1; s0 rem s0 r1; print r2; print s0; return", nil, "-3 -1 exit 7 0 1"},
		{"0: s0 const 6; s0 mul s0 s0; print s0; return", nil, "36 exit 4 0 1"},
		{"0: r0 const 9223372036854775807; s0 add r0 r0; print s0; return", nil, "-2 exit 4 0 1"},
		{"0: s0 const 0; r1 div s0 s0; print r1; return", nil, "stuck zero 2 0 1"},
		{"0: r0 const 0; s1 rem r0 r0; print r1; return", nil, "stuck zero 2 0 1"},
		{"0: r1 shl r0 s0; print r1; return", nil, "stuck shift 1 0 1"},
		{"0: r1 shr r0 s0; print r1; return", nil, "stuck shift 1 0 1"},
		{"0: s0 not s0; print s0; return", nil, "stuck bool 1 0 1"},
		{"0: s0 const 1; r0 not s0; printbool r0; printbool s0; printbool r1; return", nil, "false true stuck bool 5 0 1"},
		{"0: s0 const 0; r0 len s0; print r0; s0 len r1; return", nil, "0 stuck block 4 0 1"},
		{"0: s0 const 2; r1 alloc s0; r2 const 1; store r1 r2 s0; s1 load r1 r2; print s1; s1 len r1; print s1; s1 load r1 s1; return", nil, "2 2 stuck element 9 3 1"},
		{"0: r0 const 0; store r0 r0 r0; return", nil, "stuck block 2 0 1"},
		{"0: s0 load r0 r0; return", nil, "stuck block 1 0 1"},
		{"0: r0 const 1; s0 alloc r0; store r0 s0 r0; return", nil, "stuck element 3 2 1"},
		{"0: r0 alloc s0; return", nil, "stuck block 1 0 1"},
		{"0: s0 const 4611686018427387904; r0 alloc s0; return", nil, "panic heap 2 0 1"},
		{"0: s0 const 4611686018427387903; r0 alloc s0; s0 len r0; print s0; return", nil, "4611686018427387903 exit 5 4611686018427387904 1"},
		{"0: r0 input; s0 input; print s0; print r0; r0 input; return", []int{4, 5}, "5 4 panic input 5 0 1"},
		{"0: s0 const 0; trapneg 1 s0; trapzero 4 s0; return", nil, "panic make 3 0 1"},
		{"0: trapzero 4 r0; trapneg 5 r0; return", nil, "panic input 2 0 1"},
		{"0: r0 const 2; s0 const 3; trapbound 2 r0 s0; trapbound 3 s0 s0; return", nil, "panic shift 4 0 1"},
		{"0: r0 const 3; trapbound 1 s0 r0; return", nil, "panic divide 2 0 1"},
	}))
}

func TestP1904Terms(t *testing.T) {
	rows := []row{
		{"0: return", nil, "exit 1 0 1"},
		{"0: jump 1\n1: jump 2\n2: return", nil, "exit 3 0 1"},
		{"0: jump 2\n1: return\n2: jump 1", nil, "exit 3 0 1"},
		{"0: s0 const 0; panic s0", nil, "panic user 0 2 0 1"},
		{"0: r0 const 3; branch r0 1 1\n1: print r0; return", nil, "3 exit 4 0 1"},
		{"0: s0 const 0; branch s0 1 1\n1: print s0; return", nil, "0 exit 4 0 1"},
		// What was never set is -1, so not 0.
		{"0: branch r3 1 2\n1: branch s3 3 2\n2: return\n3: panic r4", nil, "panic user -1 3 0 1"},
		{"0: panic s0", nil, "panic user -1 1 0 1"},
		// Block 0 come to again: places are as they were left.
		{"0: print r0; print s0; r0 input; s0 move r0; branch r0 0 1\n1: return", []int{5, -6, 0, 7}, "-1 -1 5 5 -6 -6 exit 16 0 1"},
		// Blocks that can't be reached do nothing.
		{"0: jump 2\n1: print r0; jump 2\n2: return\n3: jump 1", nil, "exit 2 0 1"},
	}
	for _, n := range edges() {
		number := strconv.Itoa(n)
		taken := "1"
		if n == 0 {
			taken = "0"
		}
		for _, place := range []string{"r0", "r7", "s0", "s4"} {
			rows = append(rows, row{"0: " + place + " const " + number + "; print " + place + "; panic " + place, nil, number + " panic user " + number + " 3 0 1"})
			rows = append(rows, row{"0: " + place + " input; branch " + place + " 1 2\n1: r1 const 1; print r1; return\n2: r1 const 0; print r1; return", []int{n}, taken + " exit 5 0 1"})
		}
	}
	holdRows(t, inMain(rows))
	m := start(t, sample.ALIR("main()\n0: jump 0"), nil)
	if o, err := m.Run(1 << 22); err != api.OK || told(o) != "running 4194304 0 1" {
		t.Errorf("a block that jumps to itself: %s %v", told(o), err)
	}
}

// TestP1904EachPlace: all registers, and slots near and far, are places of their own.
func TestP1904EachPlace(t *testing.T) {
	var all []api.Loc
	for r := range api.Allocated {
		all = append(all, reg(r))
	}
	for s := range 20 {
		all = append(all, slot(s))
	}
	for _, s := range []int{63, 64, 255, 256, 1 << 16, api.MaxRegs/2 - 1, api.MaxRegs - 2, api.MaxRegs - 1} {
		all = append(all, slot(s))
	}
	f := api.AFunc{Name: "main", Slots: api.MaxRegs, Blocks: []api.ABlock{{Term: back(api.Loc{})}}}
	put := func(x api.AIns) { f.Blocks[0].Body = append(f.Blocks[0].Body, x) }
	want := ""
	for turn := range 3 { // as they begin, set, and set again in another order
		for i, p := range all {
			if turn == 0 {
				want += "-1 "
			} else {
				want += strconv.Itoa(turn*1000+i) + " "
			}
			put(api.AIns{Op: api.InsPrintInt, Args: []api.Loc{p}})
		}
		for k := range all {
			i := k
			if turn == 1 {
				i = len(all) - 1 - k
			}
			put(api.AIns{Op: api.InsConst, Dst: all[i], Imm: (turn+1)*1000 + i})
		}
	}
	o, _ := start(t, api.ALIR{Funcs: []api.AFunc{f}}, nil).Run(1000)
	if want += "exit " + strconv.Itoa(6*len(all)+1) + " 0 1"; told(o) != want {
		t.Errorf("%s, want %s", told(o), want)
	}
}
