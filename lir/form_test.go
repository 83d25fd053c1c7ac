package lir_test

import (
	"math"
	"slices"
	"strings"
	"testing"

	"quern/api"
	"quern/lir"
	"quern/sample"
)

// asked is a program with a function f in which an instruction or a Term can be put: its four registers are Params.
const asked = `main()
	0: return
	f(r0, r1, r2, r3)
	0: return
	none2(r0, r1)
	0: return
	int2(r1, r0) int
	0: return r0
	bool0() bool
	0: r0 const 1; return r0
	ints8(r0, r1, r2, r3, r4, r5, r6, r7) ints
	0: return r0`

const regs = 4

// checkIns asks Check of the program with that instruction in f, and of one in which all is right but that it stands in a later block of a later function.
func checkIns(t *testing.T, x api.LIns) api.Errno {
	t.Helper()
	l := sample.LIR(asked)
	l.Funcs[1].Blocks[0].Body = []api.LIns{x}
	is := lir.Check(l)
	deep := sample.LIR(asked)
	last := deep.Funcs[1]
	last.Name = "last"
	good := api.LIns{Op: api.InsMove, Dst: 0, Args: []int{1}}
	last.Blocks = []api.LBlock{{Term: jump(1)}, {Body: []api.LIns{good, x, good}, Term: back(-1)}}
	deep.Funcs = append(deep.Funcs, last)
	if also := lir.Check(deep); also != is {
		t.Errorf("%+v: %v, and in a later block %v", x, is, also)
	}
	return is
}

// shape: how an instruction of an Op looks; imm is one that may be.
type shape struct {
	op, args int
	sets     bool
	imm      int
}

func shapes() []shape {
	list := []shape{
		{api.InsConst, 0, true, 0}, {api.InsConst, 0, true, -77}, {api.InsInput, 0, true, 0},
		{api.InsNeg, 1, true, 0}, {api.InsInv, 1, true, 0}, {api.InsNot, 1, true, 0}, {api.InsLen, 1, true, 0}, {api.InsAlloc, 1, true, 0}, {api.InsMove, 1, true, 0},
		{api.InsLoad, 2, true, 0}, {api.InsStore, 3, false, 0}, {api.InsPrintInt, 1, false, 0}, {api.InsPrintBool, 1, false, 0},
		{api.InsCall, 0, false, 0}, {api.InsCall, 4, false, 1}, {api.InsCall, 2, false, 2},
		{api.InsCall, 2, true, 3}, {api.InsCall, 0, true, 4}, {api.InsCall, 8, true, 5},
	}
	for op := api.InsAdd; op <= api.InsShr; op++ {
		list = append(list, shape{op, 2, true, 0})
	}
	for op := api.InsEq; op <= api.InsLe; op++ {
		list = append(list, shape{op, 2, true, 0})
	}
	for kind := api.PanicDivide; kind <= api.PanicInput; kind++ {
		list = append(list, shape{api.InsTrapZero, 1, false, kind}, shape{api.InsTrapNeg, 1, false, kind}, shape{api.InsTrapBound, 2, false, kind})
	}
	return list
}

func (s shape) right() api.LIns {
	x := api.LIns{Op: s.op, Dst: -1, Imm: s.imm}
	for i := range s.args {
		x.Args = append(x.Args, i%regs)
	}
	if s.sets {
		x.Dst = 2
	}
	return x
}

func isTrap(op int) bool {
	return op == api.InsTrapZero || op == api.InsTrapNeg || op == api.InsTrapBound
}

func TestP1401AllOps(t *testing.T) {
	var ops []int
	for _, s := range shapes() {
		ops = append(ops, s.op)
		if is := checkIns(t, s.right()); is != api.OK {
			t.Errorf("%+v: %v", s.right(), is)
		}
	}
	for op := api.InsConst; op <= api.InsMove; op++ {
		if !slices.Contains(ops, op) {
			t.Errorf("the Op %d is not asked for", op)
		}
	}
}

func TestP1401NoOps(t *testing.T) {
	for _, op := range []int{api.InsPhi, api.InsParam, 0, -1, 34, 35, 99, 1 << 32, 1<<32 + api.InsConst, math.MinInt, math.MaxInt} {
		for args := range 4 {
			for _, dst := range []int{-1, 0} {
				for imm := range 3 {
					x := api.LIns{Op: op, Dst: dst, Imm: imm, Args: []int{0, 1, 2}[:args]}
					if is := checkIns(t, x); is != api.ErrLIRForm {
						t.Errorf("%+v: %v", x, is)
					}
				}
			}
		}
	}
}

func TestP1401Args(t *testing.T) {
	for _, s := range shapes() {
		for _, n := range []int{0, 1, 2, 3, 4, 5, 7, 8, 9, 100, 1 << 16} {
			x := s.right()
			x.Args = make([]int, n)
			want := api.ErrLIRForm
			if n == s.args {
				want = api.OK
			}
			if is := checkIns(t, x); is != want {
				t.Errorf("%+v with %d Args: %v", s, n, is)
			}
		}
		for i := range s.args {
			for _, r := range []int{-1, 0, regs - 1, regs, -2, 1 << 32, 1<<32 + 1, math.MinInt, math.MaxInt} {
				x := s.right()
				x.Args[i] = r
				want := api.ErrLIRForm
				if r == 0 || r == regs-1 {
					want = api.OK
				}
				if is := checkIns(t, x); is != want {
					t.Errorf("%+v with the Arg %d at the place %d: %v", s, r, i, is)
				}
			}
		}
	}
}

func TestP1401Dst(t *testing.T) {
	for _, s := range shapes() {
		for _, r := range []int{-1, 0, regs - 1, regs, -2, 1 << 32, 1<<32 + 1, 1<<32 - 1, math.MinInt, math.MaxInt} {
			x := s.right()
			x.Dst = r
			want := api.ErrLIRForm
			if s.sets && (r == 0 || r == regs-1) || r == -1 && (!s.sets || s.op == api.InsCall) {
				want = api.OK
			}
			if is := checkIns(t, x); is != want {
				t.Errorf("%+v with the Dst %d: %v", s, r, is)
			}
		}
	}
}

func TestP1401Imm(t *testing.T) {
	for _, s := range shapes() {
		for _, imm := range []int{-1, 0, 1, 2, 3, 4, 5, 6, 7, 8, 9, 1 << 32, 1<<32 + 1, math.MinInt, math.MaxInt} {
			x := s.right()
			x.Imm = imm
			want := api.ErrLIRForm
			switch {
			case s.op == api.InsConst:
				want = api.OK
			case s.op == api.InsCall:
				continue // TestP1403Calls
			case isTrap(s.op) && imm >= api.PanicDivide && imm <= api.PanicInput, !isTrap(s.op) && imm == 0:
				want = api.OK
			}
			if is := checkIns(t, x); is != want {
				t.Errorf("%+v with the Imm %d: %v", s, imm, is)
			}
		}
	}
}

func TestP1403Calls(t *testing.T) {
	params := []int{0, 4, 2, 2, 0, 8} // of the functions of asked
	gives := []bool{false, false, false, true, true, true}
	for imm := -2; imm < 9; imm++ { // the program has six functions, or seven
		for args := range 10 {
			for _, dst := range []int{-1, 3} {
				if imm == 6 {
					continue
				}
				x := api.LIns{Op: api.InsCall, Dst: dst, Imm: imm, Args: make([]int, args)}
				want := api.ErrLIRForm
				if imm >= 0 && imm < 6 && args == params[imm] && (dst == -1 || gives[imm]) {
					want = api.OK
				}
				if is := checkIns(t, x); is != want {
					t.Errorf("%+v: %v, want %v", x, is, want)
				}
			}
		}
	}
	for _, imm := range []int{1 << 32, 1<<32 + 1, math.MinInt, math.MaxInt} {
		if is := checkIns(t, api.LIns{Op: api.InsCall, Dst: -1, Imm: imm}); is != api.ErrLIRForm {
			t.Errorf("a call of %d: %v", imm, is)
		}
	}
	// A function may call itself, one ahead of it, one behind it, and main.
	holdTurns(t, `f(r0) int
		0: r0 call f r0; r0 call g; call main; return r0
		main()
		0: call main; r0 const 1; r1 call f r0; call f r1; return
		g() bool
		0: r0 call g; r0 call f r0; return r0`, []turn{{"calls", func(l *api.LIR) {}, api.OK}})
}

func TestP1402Regs(t *testing.T) {
	with := func(n int, x ...api.LIns) func(l *api.LIR) {
		return func(l *api.LIR) {
			l.Funcs[0].Regs = n
			l.Funcs[0].Blocks[0].Body = x
		}
	}
	set := func(r int) api.LIns { return api.LIns{Op: api.InsConst, Dst: r} }
	holdTurns(t, "main()\n0: return", []turn{
		{"none", with(0), api.OK},
		{"one", with(1), api.OK},
		{"MaxRegs", with(api.MaxRegs), api.OK},
		{"MaxRegs, the last one set", with(api.MaxRegs, set(api.MaxRegs-1)), api.OK},
		{"MaxRegs, one past it set", with(api.MaxRegs, set(api.MaxRegs)), api.ErrLIRForm},
		{"one past MaxRegs", with(api.MaxRegs + 1), api.ErrLIRForm},
		{"one past MaxRegs, the last one set", with(api.MaxRegs+1, set(api.MaxRegs)), api.ErrLIRForm},
		{"-1", with(-1), api.ErrLIRForm},
		{"the least", with(math.MinInt), api.ErrLIRForm},
		{"the greatest", with(math.MaxInt), api.ErrLIRForm},
		{"none, and one set", with(0, set(0)), api.ErrLIRForm},
		{"one, and it is set", with(1, set(0)), api.OK},
	})
}

func TestP1402Params(t *testing.T) {
	with := func(params ...int) func(l *api.LIR) {
		return func(l *api.LIR) { l.Funcs[1].Params = params }
	}
	holdTurns(t, "main()\n0: return\nf() regs 9\n0: return", []turn{
		{"none", with(), api.OK},
		{"the first", with(0), api.OK},
		{"the last", with(8), api.OK},
		{"eight", with(0, 1, 2, 3, 4, 5, 6, 7), api.OK},
		{"eight of them falling", with(8, 7, 6, 5, 3, 2, 1, 0), api.OK},
		{"nine", with(0, 1, 2, 3, 4, 5, 6, 7, 8), api.ErrLIRForm},
		{"very many", with(make([]int, 1<<20)...), api.ErrLIRForm},
		{"-1", with(-1), api.ErrLIRForm},
		{"Regs", with(9), api.ErrLIRForm},
		{"Regs behind good ones", with(0, 1, 9), api.ErrLIRForm},
		{"one twice", with(3, 3), api.ErrLIRForm},
		{"the first and last of eight the same", with(4, 1, 2, 3, 0, 5, 6, 4), api.ErrLIRForm},
		{"the last two the same", with(0, 1, 2, 3, 4, 5, 6, 6), api.ErrLIRForm},
		{"the greatest", with(math.MaxInt), api.ErrLIRForm},
		{"the least", with(math.MinInt), api.ErrLIRForm},
	})
}

func TestP1402ResultsAndTerms(t *testing.T) {
	for _, result := range []int{api.TypeNone, api.TypeInt, api.TypeBool, api.TypeInts, -1, 4, 1 << 32, math.MinInt, math.MaxInt} {
		isType := result >= api.TypeNone && result <= api.TypeInts
		for _, kind := range []int{api.TermJump, api.TermBranch, api.TermReturn, api.TermPanic, 0, -1, 5, 1 << 32, math.MinInt, math.MaxInt} {
			for _, value := range []int{-1, 0, regs - 1, regs, -2, math.MinInt, math.MaxInt} {
				for _, to := range [][]int{nil, {}, {0}, {1}, {2}, {-1}, {0, 1}, {1, 1}, {0, 2}, {2, 0}, {-1, 0}, {0, math.MaxInt}, {math.MinInt}, {0, 0, 0}} {
					l := sample.LIR(asked)
					l.Funcs[1].Result = result
					last := back(0)
					if result == api.TypeNone {
						last = back(-1)
					}
					// Where the form is good, block 1 may still be one that can't be reached.
					l.Funcs[1].Blocks = []api.LBlock{{Term: api.Term{Kind: kind, Value: value, To: to}}, {Term: last}}
					good := slices.Max(append([]int{0}, to...)) < 2 && slices.Min(append([]int{0}, to...)) >= 0
					isReg := value == 0 || value == regs-1
					switch kind {
					case api.TermJump:
						good = good && len(to) == 1 && value == -1
					case api.TermBranch:
						good = good && len(to) == 2 && isReg
					case api.TermReturn:
						good = good && len(to) == 0 && (result == api.TypeNone && value == -1 || result != api.TypeNone && isReg)
					case api.TermPanic:
						good = good && len(to) == 0 && isReg
					default:
						good = false
					}
					want := api.OK
					switch {
					case !good || !isType:
						want = api.ErrLIRForm
					case !slices.Contains(to, 1):
						want = api.ErrLIRReach
					}
					if is := lir.Check(l); is != want {
						t.Errorf("Result %d, Term %d %d %v: %v, want %v", result, kind, value, to, is, want)
					}
				}
			}
		}
	}
}

func TestP1402Blocks(t *testing.T) {
	holdTurns(t, asked, []turn{
		{"no block in main", func(l *api.LIR) { l.Funcs[0].Blocks = nil }, api.ErrLIRForm},
		{"no block in the last function", func(l *api.LIR) { l.Funcs[5].Blocks = []api.LBlock{} }, api.ErrLIRForm},
		{"an empty block", func(l *api.LIR) { l.Funcs[1].Blocks[0] = api.LBlock{} }, api.ErrLIRForm},
		{"a wrong Term of a block that can't be reached", func(l *api.LIR) {
			l.Funcs[1].Blocks = append(l.Funcs[1].Blocks, api.LBlock{Term: jump(2)})
		}, api.ErrLIRForm},
		{"a wrong instruction in a block that can't be reached", func(l *api.LIR) {
			l.Funcs[1].Blocks = append(l.Funcs[1].Blocks, api.LBlock{Body: []api.LIns{{Op: api.InsConst, Dst: 4}}, Term: back(-1)})
		}, api.ErrLIRForm},
		{"an instruction behind a wrong one", func(l *api.LIR) {
			l.Funcs[1].Blocks[0].Body = []api.LIns{{Op: api.InsConst, Dst: 0}, {}, {Op: api.InsConst, Dst: 1}}
		}, api.ErrLIRForm},
	})
}

func TestP1403Names(t *testing.T) {
	long := strings.Repeat("n", api.MaxName)
	good := []string{"a", "Z", "_", "a1", "_9", "mainly", "Func", "funcs", "ifs", "integer", "truely", "Int", "printint", long, "_" + long[1:], "a_B_9"}
	wrong := []string{"", " ", "1", "9a", "a b", " a", "a ", "a;", "a-b", "a.b", "(", "a\n", "\ta", "a//", "//a", "é", "a\x00", "aé", "a\xff", long + "n", strings.Repeat("n", 1<<20),
		"func", "var", "if", "else", "for", "return", "break", "continue", "print", "panic", "input", "len", "make", "int", "bool", "true", "false", "nil"}
	var turns []turn
	for at := range 3 {
		for _, name := range good {
			turns = append(turns, turn{name, func(l *api.LIR) { l.Funcs[at].Name = name }, api.OK})
		}
		for _, name := range wrong {
			turns = append(turns, turn{name, func(l *api.LIR) { l.Funcs[at].Name = name }, api.ErrLIRForm})
		}
		for other := range 3 {
			want := api.ErrLIRForm
			if other == at {
				want = api.OK
			}
			turns = append(turns, turn{"one name twice", func(l *api.LIR) { l.Funcs[at].Name = l.Funcs[other].Name }, want})
		}
	}
	turns = append(turns, turn{"names that differ in case", func(l *api.LIR) { l.Funcs[0].Name, l.Funcs[1].Name = "main", "Main" }, api.OK})
	turns = append(turns, turn{"no function is called main", func(l *api.LIR) { l.Funcs[1].Name = "start" }, api.OK})
	turns = append(turns, turn{"another one is called main", func(l *api.LIR) { l.Funcs[0].Name, l.Funcs[1].Name = "main", "f" }, api.OK})
	holdTurns(t, "f()\n0: return\nmain()\n0: return\ng()\n0: return", turns)
}

func TestP1403Main(t *testing.T) {
	with := func(main int) func(l *api.LIR) { return func(l *api.LIR) { l.Main = main } }
	holdTurns(t, `none()
		0: return
		param(r0)
		0: return
		gives() int
		0: r0 const 1; return r0
		both(r0) ints
		0: return r0
		other()
		0: return
		main()
		0: return`, []turn{
		{"the first", with(0), api.OK},
		{"one with Params", with(1), api.ErrLIRForm},
		{"one with a Result", with(2), api.ErrLIRForm},
		{"one with both", with(3), api.ErrLIRForm},
		{"another one", with(4), api.OK},
		{"the last", with(5), api.OK},
		{"one past it", with(6), api.ErrLIRForm},
		{"-1", with(-1), api.ErrLIRForm},
		{"the least", with(math.MinInt), api.ErrLIRForm},
		{"the greatest", with(math.MaxInt), api.ErrLIRForm},
		{"no function", func(l *api.LIR) { l.Funcs = nil }, api.ErrLIRForm},
		{"no function and Main 0", func(l *api.LIR) { *l = api.LIR{} }, api.ErrLIRForm},
		{"no function and Main -1", func(l *api.LIR) { *l = api.LIR{Main: -1} }, api.ErrLIRForm},
	})
	for _, result := range []int{api.TypeBool, api.TypeInts} {
		l := sample.LIR("main() int\n0: r0 const 0; return r0")
		l.Funcs[0].Result = result
		if is := lir.Check(l); is != api.ErrLIRForm {
			t.Errorf("main with the Result %d: %v", result, is)
		}
	}
}

// TestP1402Formed asks functions that no program can have: whatever their names are, and whatever they call.
func TestP1402Formed(t *testing.T) {
	for _, x := range []struct {
		what string
		turn func(f *api.LFunc)
		want bool
	}{
		{"nothing", func(f *api.LFunc) {}, true},
		{"no name", func(f *api.LFunc) { f.Name = "" }, true},
		{"a word as its name", func(f *api.LFunc) { f.Name = "for" }, true},
		{"a call of function 0", func(f *api.LFunc) { f.Blocks[0].Body[0].Imm = 0 }, true},
		{"a call of any function", func(f *api.LFunc) { f.Blocks[0].Body[0].Imm = math.MaxInt }, true},
		{"a call of function -1", func(f *api.LFunc) { f.Blocks[0].Body[0].Imm = -1 }, false},
		{"a call of the least number", func(f *api.LFunc) { f.Blocks[0].Body[0].Imm = math.MinInt }, false},
		{"a call without Args", func(f *api.LFunc) { f.Blocks[0].Body[0].Args = nil }, true},
		{"a call with eight Args", func(f *api.LFunc) { f.Blocks[0].Body[0].Args = make([]int, 8) }, true},
		{"a call with nine Args", func(f *api.LFunc) { f.Blocks[0].Body[0].Args = make([]int, 9) }, false},
		{"a call without Dst", func(f *api.LFunc) { f.Blocks[0].Body[0].Dst = -1 }, true},
		{"a call with the Dst -2", func(f *api.LFunc) { f.Blocks[0].Body[0].Dst = -2 }, false},
		{"a call with the Dst Regs", func(f *api.LFunc) { f.Blocks[0].Body[0].Dst = 3 }, false},
		{"a call with an Arg that is no register", func(f *api.LFunc) { f.Blocks[0].Body[0].Args = []int{0, 3} }, false},
		{"a block that can't be reached", func(f *api.LFunc) { f.Blocks = append(f.Blocks, api.LBlock{Term: back(0)}) }, true},
		{"a register that is not set", func(f *api.LFunc) { f.Params = nil }, true},
		{"Regs 2", func(f *api.LFunc) { f.Regs = 2 }, false},
		{"a Result that is none", func(f *api.LFunc) { f.Result = 4 }, false},
		{"a Param twice", func(f *api.LFunc) { f.Params = []int{0, 0} }, false},
		{"no block", func(f *api.LFunc) { f.Blocks = nil }, false},
		{"a return without a Value", func(f *api.LFunc) { f.Blocks[0].Term = back(-1) }, false},
		{"an Op that is none", func(f *api.LFunc) { f.Blocks[0].Body[0].Op = api.InsParam }, false},
	} {
		f := api.LFunc{Name: "f", Params: []int{0, 1}, Regs: 3, Result: api.TypeInt, Blocks: []api.LBlock{{
			Body: []api.LIns{{Op: api.InsCall, Dst: 2, Imm: 7, Args: []int{0, 1}}}, Term: back(2),
		}}}
		x.turn(&f)
		if is := lir.Formed(f); is != x.want {
			t.Errorf("%s: %v", x.what, is)
		}
	}
}
