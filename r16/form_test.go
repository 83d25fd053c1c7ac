package r16_test

import (
	"math"
	"slices"
	"strings"
	"testing"

	"quern/api"
	"quern/r16"
	"quern/sample"
)

// asked is code of three functions; in the middle one, of the instructions 2 to 6 and a frame of 5 words, an instruction can be put.
const asked = `main()
	0: call f; ret
	f(3) frame 5
	2: ldi r0 1; mov r1 r0; mov r2 r0; mov r3 r0; ret
	g(8) frame 9
	7: jmp 7`

// holdIns asks Check of the code with that instruction at each place of f but the last one.
func holdIns(t *testing.T, x api.Ins, fits bool) {
	t.Helper()
	for at := 2; at < 6; at++ {
		c := sample.Code(asked)
		c.Ins[at] = x
		if is := r16.Check(c); is != wantIf(fits) {
			t.Errorf("%+v at %d: %v, want %v", x, at, is, wantIf(fits))
		}
	}
}

// right is an instruction of that Op, as it may stand in f.
func right(op int) api.Ins {
	x := withRegisters(api.Ins{Op: op}, 3, 15, 7)
	if strings.Contains(table[op], "N") {
		x.N = 2
	}
	return x
}

// withRegisters is the instruction with these in the fields that its Op has.
func withRegisters(x api.Ins, a, b, c int) api.Ins {
	for _, field := range table[x.Op] {
		switch field {
		case 'A':
			x.A = a
		case 'B':
			x.B = b
		case 'C':
			x.C = c
		}
	}
	return x
}

func ops() (list []int) {
	for op := range table {
		list = append(list, op)
	}
	slices.Sort(list)
	return list
}

var wild = []int{math.MinInt, math.MinInt + 1, math.MaxInt, math.MaxInt - 1, 1 << 32, 1<<32 + 1, 1<<32 + 2, -1 << 32, 1 << 62, 256, 257, -16, -15}

func TestP2102AllOps(t *testing.T) {
	if list := ops(); len(list) != 38 || list[0] != api.RLdi || list[37] != api.ROutB {
		t.Fatalf("the Ops are %v", list)
	}
	for _, op := range ops() {
		holdIns(t, right(op), true)
		for _, register := range []int{0, api.Registers - 1} {
			holdIns(t, withRegisters(right(op), register, register, register), true)
		}
	}
}

func TestP2102NoOps(t *testing.T) {
	for _, op := range append([]int{0, -1, 39, 40, 99, 128, 1<<32 + api.RRet}, wild...) {
		for _, x := range []api.Ins{{}, {A: 1}, {A: 1, B: 1}, {A: 1, B: 1, C: 1}, {N: 2}, {A: 1, N: 2}} {
			x.Op = op
			holdIns(t, x, false)
		}
	}
}

// TestP2102Registers: each field at its limits and past them, where the Op has it, and other than 0, where it has not.
func TestP2102Registers(t *testing.T) {
	numbers := append([]int{-2, -1, 0, 1, 2, 7, 8, 14, 15, 16, 17, 31, 32, 127, 128, 255}, wild...)
	for _, op := range ops() {
		for _, n := range numbers {
			for field, set := range map[string]func(x *api.Ins){
				"A": func(x *api.Ins) { x.A = n },
				"B": func(x *api.Ins) { x.B = n },
				"C": func(x *api.Ins) { x.C = n },
			} {
				x := right(op)
				set(&x)
				holdIns(t, x, n == 0 || strings.Contains(table[op], field) && 0 < n && n <= 15)
			}
		}
	}
}

// TestP2102Numbers: each N.
func TestP2102Numbers(t *testing.T) {
	numbers := append([]int{-2, -1, 0, 1, 2, 3, 4, 5, 6, 7, 8, 9, 10, 11, api.MaxStack - 1, api.MaxStack}, wild...)
	for _, op := range ops() {
		for _, n := range numbers {
			x := right(op)
			x.N = n
			fits := n == 0
			switch op {
			case api.RLdi:
				fits = true
			case api.RJmp, api.RBz, api.RBnz: // f's instructions
				fits = 2 <= n && n <= 6
			case api.RLds, api.RSts: // the words of f's frame, but 0 and 1
				fits = 2 <= n && n <= 4
			case api.RCall:
				fits = 0 <= n && n <= 2
			case api.RTrapZ, api.RTrapN, api.RTrapU:
				fits = api.PanicDivide <= n && n <= api.PanicInput
			case api.RTrap:
				fits = api.PanicDivide <= n && n <= api.PanicUser
			}
			holdIns(t, x, fits)
		}
	}
}

// TestP2102Words: RLds and RSts at the ends of frames of all kinds.
func TestP2102Words(t *testing.T) {
	for _, frame := range []int{2, 3, 4, 5, 100, 1 << 32, api.MaxStack - 1, api.MaxStack} {
		for _, n := range []int{-1, 0, 1, 2, 3, frame - 2, frame - 1, frame, frame + 1, 1 << 32, math.MaxInt, math.MinInt} {
			for _, op := range []int{api.RLds, api.RSts} {
				c := sample.Code(asked)
				c.Funcs[1].Frame = frame
				c.Ins[4] = api.Ins{Op: op, A: 1, N: n}
				holdCheck(t, "a word", c, 2 <= n && n <= frame-1)
			}
		}
	}
}

// TestP2102Targets: from each function to each instruction, and past both ends.
func TestP2102Targets(t *testing.T) {
	c := sample.Code(asked)
	for _, f := range c.Funcs {
		for n := -2; n < 12; n++ {
			for _, op := range []int{api.RJmp, api.RBz, api.RBnz} {
				for at := f.First; at < f.First+f.Count; at++ {
					if op != api.RJmp && at == f.First+f.Count-1 {
						continue
					}
					d := sample.Code(asked)
					d.Ins[at] = api.Ins{Op: op, N: n}
					holdCheck(t, "a target", d, f.First <= n && n < f.First+f.Count)
				}
			}
		}
	}
}

// TestP2102Last: what stands behind all others of a function, also where it can't be reached.
func TestP2102Last(t *testing.T) {
	for _, op := range ops() {
		last := op == api.RJmp || op == api.RRet || op == api.RTrap
		c := sample.Code(asked)
		c.Ins[6] = right(op)
		holdCheck(t, "the last instruction of f", c, last)
		alone := api.Code{Ins: []api.Ins{right(op)}, Funcs: []api.RFunc{{Name: "main", Frame: 3, Count: 1}}}
		if op == api.RJmp {
			alone.Ins[0].N = 0
		}
		holdCheck(t, "the only instruction", alone, last)
		behind := api.Code{Ins: []api.Ins{{Op: api.RRet}, right(op)}, Funcs: []api.RFunc{{Name: "main", Frame: 3, Count: 2}}}
		if op == api.RJmp {
			behind.Ins[1].N = 1
		}
		holdCheck(t, "behind an RRet", behind, last)
		if last { // and it may stand anywhere
			ahead := behind
			ahead.Ins = []api.Ins{behind.Ins[1], {Op: api.RRet}}
			holdCheck(t, "ahead of an RRet", ahead, true)
		}
	}
}

// TestP2102Cut: functions that cut the instructions, and that don't.
func TestP2102Cut(t *testing.T) {
	turns := []turn{
		{"nothing", func(c *api.Code) {}, true},
		{"one instruction more", func(c *api.Code) { c.Ins = append(c.Ins, api.Ins{Op: api.RRet}) }, false},
		{"one less", func(c *api.Code) { c.Ins = c.Ins[:7] }, false},
		{"no instructions", func(c *api.Code) { c.Ins = nil }, false},
		{"one of Count 0 at the end", func(c *api.Code) {
			c.Funcs = append(c.Funcs, api.RFunc{Name: "h", Frame: 2, First: 8})
		}, false},
		{"one of Count 0 at the beginning", func(c *api.Code) {
			c.Funcs = append([]api.RFunc{{Name: "h", Frame: 2}}, c.Funcs...)
			c.Main = 1
			c.Ins[0].N = 2
		}, false},
		{"two the other way round", func(c *api.Code) { c.Funcs[1], c.Funcs[2] = c.Funcs[2], c.Funcs[1] }, false},
		{"both the same instructions", func(c *api.Code) { c.Funcs[2].First, c.Funcs[2].Count = 2, 5 }, false},
		{"one within another", func(c *api.Code) { c.Funcs[2].First, c.Funcs[2].Count = 6, 1 }, false},
		{"a gap, by the first one's Count", func(c *api.Code) { c.Funcs[0].Count = 1 }, false},
		{"an instruction goes to the function behind", func(c *api.Code) {
			c.Ins[1] = api.Ins{Op: api.RRet}
			c.Ins[0] = api.Ins{Op: api.RRet}
			c.Funcs[0].Count = 1
			c.Funcs[1].First, c.Funcs[1].Count = 1, 6
		}, true},
		{"Counts whose sum wraps to what is there", func(c *api.Code) {
			c.Funcs[1].Count = math.MaxInt
			c.Funcs[2].First, c.Funcs[2].Count = math.MinInt+1, math.MaxInt
		}, false},
		{"a Count that wraps with First", func(c *api.Code) { c.Funcs[1].Count, c.Funcs[2].First = math.MaxInt, math.MinInt+1 }, false},
	}
	for at := range 3 {
		for _, n := range append([]int{-1, 0, 1, 2, 3, 4, 5, 6, 7, 8, 9}, wild...) {
			turns = append(turns, turn{"a First", func(c *api.Code) { c.Funcs[at].First = n }, n == []int{0, 2, 7}[at]})
			turns = append(turns, turn{"a Count", func(c *api.Code) { c.Funcs[at].Count = n }, n == []int{2, 5, 1}[at]})
		}
	}
	holdTurns(t, asked, turns)
}

func TestP2102FramesAndParams(t *testing.T) {
	var turns []turn
	for at := range 3 {
		for _, n := range append([]int{-1, 0, 1, 2, 3, 4, 5, 6, 1 << 31, api.MaxStack - 1, api.MaxStack, api.MaxStack + 1, api.MaxStack + 2, api.MaxStack * 2}, wild...) {
			turns = append(turns, turn{"a Frame", func(c *api.Code) { c.Funcs[at].Frame = n }, 2 <= n && n <= api.MaxStack})
		}
		for _, n := range append([]int{-1, 0, 1, 2, 7, 8, 9, 10, 16, 255}, wild...) {
			most := 8
			if at == 0 { // Main's
				most = 0
			}
			turns = append(turns, turn{"Params", func(c *api.Code) { c.Funcs[at].Params = n }, 0 <= n && n <= most})
		}
	}
	holdTurns(t, asked, turns)
}

func TestP2102Names(t *testing.T) {
	long := strings.Repeat("n", api.MaxName)
	good := []string{"a", "Z", "_", "a1", "_9", "mainly", "Func", "funcs", "ifs", "integer", "truely", "Int", "outi", "r0", long, "_" + long[1:], "a_B_9"}
	wrong := []string{"", " ", "1", "9a", "a b", " a", "a ", "a;", "a-b", "a.b", "(", "a\n", "\ta", "a//", "//a", "é", "a\x00", "aé", "a\xff", long + "n", strings.Repeat("n", 1<<20),
		"func", "var", "if", "else", "for", "return", "break", "continue", "print", "panic", "input", "len", "make", "int", "bool", "true", "false", "nil"}
	var turns []turn
	for at := range 3 {
		for _, name := range good {
			turns = append(turns, turn{name, func(c *api.Code) { c.Funcs[at].Name = name }, true})
		}
		for _, name := range wrong {
			turns = append(turns, turn{name, func(c *api.Code) { c.Funcs[at].Name = name }, false})
		}
		for other := range 3 {
			turns = append(turns, turn{"one name twice", func(c *api.Code) { c.Funcs[at].Name = c.Funcs[other].Name }, other == at})
		}
	}
	turns = append(turns, turn{"names that differ in case", func(c *api.Code) { c.Funcs[1].Name, c.Funcs[2].Name = "main2", "Main" }, true})
	turns = append(turns, turn{"no function is called main", func(c *api.Code) { c.Funcs[0].Name = "start" }, true})
	turns = append(turns, turn{"another one is called main", func(c *api.Code) { c.Funcs[0].Name, c.Funcs[1].Name = "f", "main" }, true})
	holdTurns(t, asked, turns)
}

func TestP2102Main(t *testing.T) {
	with := func(main int) func(c *api.Code) { return func(c *api.Code) { c.Main = main } }
	turns := []turn{
		{"the first", with(0), true},
		{"one with a Param", with(1), false},
		{"one with eight", with(2), false},
		{"another one", with(3), true},
		{"the last", with(4), true},
		{"one past it", with(5), false},
		{"-1", with(-1), false},
		{"no function", func(c *api.Code) { c.Funcs = nil }, false},
		{"no function and no instruction", func(c *api.Code) { *c = api.Code{} }, false},
		{"no function and Main -1", func(c *api.Code) { *c = api.Code{Main: -1} }, false},
	}
	for _, n := range wild {
		turns = append(turns, turn{"a wild one", with(n), false})
	}
	holdTurns(t, "none()\n0: ret\nparam(1)\n1: ret\neight(8)\n2: ret\nother()\n3: ret\nmain()\n4: ret", turns)
}

// TestP2102Calls: a function may call itself, one ahead of it, one behind it, and Main, whatever their Params are.
func TestP2102Calls(t *testing.T) {
	holdCheck(t, "calls", sample.Code(`f(8)
		0: call f; call main; call g; ret
		main()
		4: call f; call main; call g; trap r0 6
		g(1)
		8: call f; call main; call g; jmp 8`), true)
}

// TestWhatOpsHave holds what other packages ask of an Op against P2101's table.
func TestWhatOpsHave(t *testing.T) {
	for _, op := range append([]int{0, -1, 39, 40, 255, 256 + api.RRet}, wild...) {
		if is := r16.RegistersOf(op); is != r16.NoOp || r16.HasNumber(op) || r16.IsLast(op) {
			t.Errorf("%d: %d registers", op, is)
		}
	}
	f := api.RFunc{Frame: 9, First: 20, Count: 5}
	for _, op := range ops() {
		has := strings.Contains(table[op], "N")
		registers := len(strings.Fields(strings.TrimSuffix(table[op], "N")))
		if is := r16.RegistersOf(op); is != registers || r16.HasNumber(op) != has {
			t.Errorf("%d: %d registers, a number: %t, want %s", op, is, r16.HasNumber(op), table[op])
		}
		if is, want := r16.IsLast(op), op == api.RJmp || op == api.RRet || op == api.RTrap; is != want {
			t.Errorf("%d: the last one: %t", op, is)
		}
		least, most := r16.NumbersOf(op, f, 4)
		want := [2]int{}
		switch op {
		case api.RLdi:
			want = [2]int{math.MinInt, math.MaxInt}
		case api.RJmp, api.RBz, api.RBnz:
			want = [2]int{20, 24}
		case api.RLds, api.RSts:
			want = [2]int{2, 8}
		case api.RCall:
			want = [2]int{0, 3}
		case api.RTrapZ, api.RTrapN, api.RTrapU:
			want = [2]int{1, 5}
		case api.RTrap:
			want = [2]int{1, 6}
		}
		if is := [2]int{least, most}; is != want {
			t.Errorf("%d: %v, want %v", op, is, want)
		}
	}
}
