package alir_test

import (
	"math"
	"slices"
	"strings"
	"testing"

	"quern/alir"
	"quern/api"
	"quern/sample"
)

// asked is a program with a function f, of three slots, in which an instruction or a Term can be put.
const asked = `main()
	0: return
	f(r0, r7, s0, s2) slots 3
	0: return
	none2(r0, s1)
	0: return
	int2(s1, r0) int
	0: return r0
	bool0() bool
	0: r0 const 1; return r0
	ints8(r7, r6, r5, r4, s3, s2, s1, s0) ints
	0: return s0`

// checkIns asks Check of the program with that instruction in f, and of one in which all is right but that it stands in a later block of a later function.
func checkIns(t *testing.T, x api.AIns) api.Errno {
	t.Helper()
	a := sample.ALIR(asked)
	a.Funcs[1].Blocks[0].Body = []api.AIns{x}
	is := alir.Check(a)
	deep := sample.ALIR(asked)
	last := deep.Funcs[1]
	last.Name = "last"
	good := api.AIns{Op: api.InsMove, Dst: reg(0), Args: []api.Loc{slot(1)}}
	last.Blocks = []api.ABlock{{Term: jump(1)}, {Body: []api.AIns{good, x, good}, Term: back(api.Loc{})}}
	deep.Funcs = append(deep.Funcs, last)
	if also := alir.Check(deep); also != is {
		t.Errorf("%+v: %v, and in a later block %v", x, is, also)
	}
	return is
}

// located is a Loc, and whether it is a place of f.
type located struct {
	loc api.Loc
	is  bool
}

// locs are none, places of f at their limits, and what is none of its places.
func locs() []located {
	list := []located{
		{reg(0), true}, {reg(1), true}, {reg(api.Allocated - 1), true}, {reg(api.Allocated), false}, {reg(api.Registers - 1), false}, {reg(-1), false},
		{slot(0), true}, {slot(1), true}, {slot(2), true}, {slot(3), false}, {slot(-1), false}, {slot(api.MaxRegs - 1), false}, {slot(api.MaxRegs), false},
		{api.Loc{}, false}, {api.Loc{N: 1}, false}, {api.Loc{N: -1}, false}, {api.Loc{N: 7}, false},
	}
	for _, kind := range []int{api.LocNum, 4, -1, 1 << 32, 1<<32 + 1, 1<<32 + 2, math.MinInt, math.MaxInt} {
		for _, n := range []int{0, 1, 2, -1} {
			list = append(list, located{api.Loc{Kind: kind, N: n}, false})
		}
	}
	for _, n := range []int{1 << 32, 1<<32 + 1, math.MinInt, math.MaxInt, math.MaxInt - 7, -api.Allocated} {
		list = append(list, located{reg(n), false}, located{slot(n), false})
	}
	return list
}

// shape: how an instruction of an Op looks; imm is one that may be.
type shape struct {
	op, args int
	sets     bool
	imm      int
}

func shapes() []shape {
	list := []shape{
		{api.InsConst, 0, true, 0}, {api.InsConst, 0, true, -77}, {api.InsInput, 0, true, 0},
		{api.InsNeg, 1, true, 0}, {api.InsInv, 1, true, 0}, {api.InsNot, 1, true, 0}, {api.InsLen, 1, true, 0}, {api.InsAlloc, 1, true, 0}, {api.InsMove, 1, true, 0},
		{api.InsLoad, 2, true, 0}, {api.InsStore, 3, false, 0}, {api.InsPrintInt, 1, false, 0}, {api.InsPrintBool, 1, false, 0},
		{api.InsCall, 0, false, 0}, {api.InsCall, 4, false, 1}, {api.InsCall, 2, false, 2},
		{api.InsCall, 2, true, 3}, {api.InsCall, 0, true, 4}, {api.InsCall, 8, true, 5},
	}
	for op := api.InsAdd; op <= api.InsShr; op++ {
		list = append(list, shape{op, 2, true, 0})
	}
	for op := api.InsEq; op <= api.InsLe; op++ {
		list = append(list, shape{op, 2, true, 0})
	}
	for kind := api.PanicDivide; kind <= api.PanicInput; kind++ {
		list = append(list, shape{api.InsTrapZero, 1, false, kind}, shape{api.InsTrapNeg, 1, false, kind}, shape{api.InsTrapBound, 2, false, kind})
	}
	return list
}

func (s shape) right() api.AIns {
	x := api.AIns{Op: s.op, Imm: s.imm}
	for i := range s.args {
		x.Args = append(x.Args, []api.Loc{reg(7), slot(2), reg(0), slot(0)}[i%4])
	}
	if s.sets {
		x.Dst = slot(1)
	}
	return x
}

func isTrap(op int) bool {
	return op == api.InsTrapZero || op == api.InsTrapNeg || op == api.InsTrapBound
}

func wantIf(is bool) api.Errno {
	if is {
		return api.OK
	}
	return api.ErrALIRForm
}

func TestP1902AllOps(t *testing.T) {
	var ops []int
	for _, s := range shapes() {
		ops = append(ops, s.op)
		if is := checkIns(t, s.right()); is != api.OK {
			t.Errorf("%+v: %v", s.right(), is)
		}
	}
	for op := api.InsConst; op <= api.InsMove; op++ {
		if !slices.Contains(ops, op) {
			t.Errorf("the Op %d is not asked for", op)
		}
	}
}

func TestP1902NoOps(t *testing.T) {
	for _, op := range []int{api.InsPhi, api.InsParam, 0, -1, 34, 35, 99, 1 << 32, 1<<32 + api.InsConst, math.MinInt, math.MaxInt} {
		for args := range 4 {
			for _, dst := range []api.Loc{{}, reg(0), slot(0)} {
				for imm := range 3 {
					x := api.AIns{Op: op, Dst: dst, Imm: imm, Args: []api.Loc{reg(0), slot(0), reg(1)}[:args]}
					if is := checkIns(t, x); is != api.ErrALIRForm {
						t.Errorf("%+v: %v", x, is)
					}
				}
			}
		}
	}
}

func TestP1902Args(t *testing.T) {
	for _, s := range shapes() {
		for _, n := range []int{0, 1, 2, 3, 4, 5, 7, 8, 9, 100, 1 << 16} {
			x := s.right()
			x.Args = nil
			for i := range n {
				x.Args = append(x.Args, []api.Loc{reg(1), slot(1)}[i%2])
			}
			if is := checkIns(t, x); is != wantIf(n == s.args) {
				t.Errorf("%+v with %d Args: %v", s, n, is)
			}
		}
		for i := range s.args {
			for _, l := range locs() {
				x := s.right()
				x.Args[i] = l.loc
				if is := checkIns(t, x); is != wantIf(l.is) {
					t.Errorf("%+v with the Arg %+v at the place %d: %v", s, l.loc, i, is)
				}
			}
		}
	}
}

func TestP1902Dst(t *testing.T) {
	for _, s := range shapes() {
		for _, l := range locs() {
			x := s.right()
			x.Dst = l.loc
			none := l.loc == api.Loc{}
			want := wantIf(s.sets && l.is || none && (!s.sets || s.op == api.InsCall))
			if is := checkIns(t, x); is != want {
				t.Errorf("%+v with the Dst %+v: %v, want %v", s, l.loc, is, want)
			}
		}
	}
}

func TestP1902Imm(t *testing.T) {
	for _, s := range shapes() {
		for _, imm := range []int{-1, 0, 1, 2, 3, 4, 5, 6, 7, 8, 9, 1 << 32, 1<<32 + 1, math.MinInt, math.MaxInt} {
			x := s.right()
			x.Imm = imm
			good := imm == 0
			switch {
			case s.op == api.InsConst:
				good = true
			case s.op == api.InsCall:
				continue // TestP1903Calls
			case isTrap(s.op):
				good = imm >= api.PanicDivide && imm <= api.PanicInput
			}
			if is := checkIns(t, x); is != wantIf(good) {
				t.Errorf("%+v with the Imm %d: %v", s, imm, is)
			}
		}
	}
}

func TestP1902Saves(t *testing.T) {
	all := []int{0, 1, 2, 3, 4, 5, 6, 7}
	var lists [][]int // all lists of registers that rise
	for set := range 256 {
		list := []int{}
		for _, r := range all {
			if set>>r&1 == 1 {
				list = append(list, r)
			}
		}
		lists = append(lists, list)
	}
	wrong := [][]int{{0, 0}, {7, 7}, {3, 3, 4}, {1, 0}, {7, 0}, {0, 2, 1}, {7, 6, 5, 4, 3, 2, 1, 0}, {8}, {-1}, {0, 8}, {-1, 0}, {7, 8}, {9}, {15}, {16}, {0, 1, 2, 3, 4, 5, 6, 7, 7}, {0, 1, 2, 3, 4, 5, 6, 7, 8},
		{0, 1, 2, 3, 4, 5, 6, 7, 0}, {1 << 32}, {0, 1 << 32}, {1<<32 + 1}, {math.MinInt}, {math.MaxInt}, {math.MaxInt, math.MinInt}, {0, math.MinInt}, {math.MinInt, 0}, make([]int, 1000)}
	for _, s := range shapes() {
		isCall := s.op == api.InsCall
		hold := func(saves []int, want api.Errno) {
			t.Helper()
			x := s.right()
			x.Saves = saves
			if is := checkIns(t, x); is != want {
				t.Errorf("%+v with the Saves %v: %v, want %v", s, saves, is, want)
			}
		}
		hold(nil, api.OK)
		for _, saves := range lists {
			hold(saves, wantIf(isCall || len(saves) == 0))
		}
		for _, saves := range wrong {
			hold(saves, api.ErrALIRForm)
		}
	}
	// The registers of Saves need not be named by the function, and may be Args and Dst.
	holdTurns(t, "f(r0, r1) int\n0: return r0\nmain()\n0: r0 call f r0 r7 save 0 1 2 3 4 5 6 7; return", []turn{{"all", func(a *api.ALIR) {}, api.OK}})
}

func TestP1903Calls(t *testing.T) {
	params := []int{0, 4, 2, 2, 0, 8} // of the functions of asked
	gives := []bool{false, false, false, true, true, true}
	for imm := -2; imm < 9; imm++ { // the program has six functions, or seven
		for args := range 10 {
			for _, dst := range []api.Loc{{}, reg(3), slot(0)} {
				if imm == 6 {
					continue
				}
				x := api.AIns{Op: api.InsCall, Dst: dst, Imm: imm}
				for range args {
					x.Args = append(x.Args, slot(2))
				}
				want := wantIf(imm >= 0 && imm < 6 && args == params[max(0, min(imm, 5))] && (dst == api.Loc{} || gives[imm]))
				if is := checkIns(t, x); is != want {
					t.Errorf("%+v: %v, want %v", x, is, want)
				}
			}
		}
	}
	for _, imm := range []int{1 << 32, 1<<32 + 1, math.MinInt, math.MaxInt} {
		if is := checkIns(t, api.AIns{Op: api.InsCall, Imm: imm}); is != api.ErrALIRForm {
			t.Errorf("a call of %d: %v", imm, is)
		}
	}
	// A function may call itself, one ahead of it, one behind it, and main.
	holdTurns(t, `f(s0) int
		0: r0 call f s0; s0 call g; call main; return r0
		main()
		0: call main; r0 const 1; s1 call f r0; call f s1; return
		g() bool
		0: s0 call g; r0 call f s0; return r0`, []turn{{"calls", func(a *api.ALIR) {}, api.OK}})
}

func TestP1901Slots(t *testing.T) {
	with := func(n int, x ...api.AIns) func(a *api.ALIR) {
		return func(a *api.ALIR) {
			a.Funcs[0].Slots = n
			a.Funcs[0].Blocks[0].Body = x
		}
	}
	set := func(s int) api.AIns { return api.AIns{Op: api.InsConst, Dst: slot(s)} }
	holdTurns(t, "main()\n0: return\nf(s0)\n0: return", []turn{
		{"none", with(0), api.OK},
		{"one", with(1), api.OK},
		{"MaxRegs", with(api.MaxRegs), api.OK},
		{"MaxRegs, the last one and all registers set", with(api.MaxRegs, set(api.MaxRegs-1), api.AIns{Op: api.InsConst, Dst: reg(0)}, api.AIns{Op: api.InsConst, Dst: reg(7)}), api.OK},
		{"MaxRegs, one past it set", with(api.MaxRegs, set(api.MaxRegs)), api.ErrALIRForm},
		{"MaxRegs, one as far past it as there are registers", with(api.MaxRegs, set(api.MaxRegs+7)), api.ErrALIRForm},
		{"one past MaxRegs", with(api.MaxRegs + 1), api.ErrALIRForm},
		{"eight past MaxRegs", with(api.MaxRegs + 8), api.ErrALIRForm},
		{"one past MaxRegs, the last one set", with(api.MaxRegs+1, set(api.MaxRegs)), api.ErrALIRForm},
		{"-1", with(-1), api.ErrALIRForm},
		{"-8", with(-8), api.ErrALIRForm},
		{"the least", with(math.MinInt), api.ErrALIRForm},
		{"the greatest", with(math.MaxInt), api.ErrALIRForm},
		{"none, and one set", with(0, set(0)), api.ErrALIRForm},
		{"one, and it is set", with(1, set(0)), api.OK},
		{"one, and the next is set", with(1, set(1)), api.ErrALIRForm},
		{"another function's", func(a *api.ALIR) { a.Funcs[0].Slots, a.Funcs[1].Slots = 5, 0 }, api.ErrALIRForm},
		{"the last function's", func(a *api.ALIR) { a.Funcs[1].Slots = api.MaxRegs + 1 }, api.ErrALIRForm},
	})
}

func TestP1903Params(t *testing.T) {
	with := func(params ...api.Loc) func(a *api.ALIR) {
		return func(a *api.ALIR) { a.Funcs[1].Params = params }
	}
	r, s := reg, slot
	turns := []turn{
		{"none", with(), api.OK},
		{"eight registers", with(r(0), r(1), r(2), r(3), r(4), r(5), r(6), r(7)), api.OK},
		{"eight of them falling", with(r(7), r(6), r(5), r(4), r(3), r(2), r(1), r(0)), api.OK},
		{"eight slots", with(s(0), s(1), s(2), s(3), s(4), s(5), s(6), s(7)), api.OK},
		{"four of each, with the same numbers", with(r(0), s(0), r(1), s(1), s(2), r(2), s(3), r(3)), api.OK},
		{"nine", with(r(0), r(1), r(2), r(3), r(4), r(5), r(6), r(7), s(0)), api.ErrALIRForm},
		{"nine, one twice", with(r(0), r(1), r(2), r(3), r(4), r(5), r(6), r(7), r(0)), api.ErrALIRForm},
		{"very many", with(make([]api.Loc, 1<<20)...), api.ErrALIRForm},
		{"a register twice", with(r(3), r(3)), api.ErrALIRForm},
		{"a slot twice", with(s(3), s(3)), api.ErrALIRForm},
		{"a slot of a register's number", with(r(3), s(3)), api.OK},
		{"a slot of the number that lies as far behind", with(s(0), r(7), s(7)), api.OK},
		{"the first and last of eight the same", with(s(4), r(1), r(2), r(3), r(0), r(5), r(6), s(4)), api.ErrALIRForm},
		{"the last two the same", with(r(0), r(1), r(2), r(3), r(4), r(5), s(6), s(6)), api.ErrALIRForm},
	}
	for _, l := range locs() {
		good := l.is || l.loc == slot(3)
		turns = append(turns, turn{"one", with(l.loc), wantIf(good)}, turn{"one behind good ones", with(r(5), s(7), l.loc), wantIf(good)})
	}
	holdTurns(t, "main()\n0: return\nf() slots 9\n0: return", turns)
}

func TestP1903ResultsAndTerms(t *testing.T) {
	for _, result := range []int{api.TypeNone, api.TypeInt, api.TypeBool, api.TypeInts, -1, 4, 1 << 32, math.MinInt, math.MaxInt} {
		isType := result >= api.TypeNone && result <= api.TypeInts
		for _, kind := range []int{api.TermJump, api.TermBranch, api.TermReturn, api.TermPanic, 0, -1, 5, 1 << 32, math.MinInt, math.MaxInt} {
			for _, l := range locs() {
				for _, to := range [][]int{nil, {}, {0}, {1}, {2}, {-1}, {0, 1}, {1, 1}, {0, 2}, {2, 0}, {-1, 0}, {0, math.MaxInt}, {math.MinInt}, {0, 0, 0}} {
					a := sample.ALIR(asked)
					last := back(reg(0))
					if result == api.TypeNone {
						last = back(api.Loc{})
					}
					a.Funcs[1].Result = result
					a.Funcs[1].Blocks = []api.ABlock{{Term: api.ATerm{Kind: kind, Value: l.loc, To: to}}, {Term: last}}
					good := slices.Max(append([]int{0}, to...)) < 2 && slices.Min(append([]int{0}, to...)) >= 0
					none := l.loc == api.Loc{}
					switch kind {
					case api.TermJump:
						good = good && len(to) == 1 && none
					case api.TermBranch:
						good = good && len(to) == 2 && l.is
					case api.TermReturn:
						good = good && len(to) == 0 && (result == api.TypeNone && none || result != api.TypeNone && l.is)
					case api.TermPanic:
						good = good && len(to) == 0 && l.is
					default:
						good = false
					}
					if is := alir.Check(a); is != wantIf(good && isType) {
						t.Errorf("Result %d, Term %d %+v %v: %v", result, kind, l.loc, to, is)
					}
				}
			}
		}
	}
}

func TestP1903Blocks(t *testing.T) {
	put := func(f int, b api.ABlock) func(a *api.ALIR) {
		return func(a *api.ALIR) { a.Funcs[f].Blocks = append(a.Funcs[f].Blocks, b) }
	}
	holdTurns(t, asked, []turn{
		{"nothing", func(a *api.ALIR) {}, api.OK},
		{"no block in main", func(a *api.ALIR) { a.Funcs[0].Blocks = nil }, api.ErrALIRForm},
		{"no block in the last function", func(a *api.ALIR) { a.Funcs[5].Blocks = []api.ABlock{} }, api.ErrALIRForm},
		{"an empty block", func(a *api.ALIR) { a.Funcs[1].Blocks[0] = api.ABlock{} }, api.ErrALIRForm},
		// Blocks that can't be reached are allowed, where they are formed.
		{"a block that can't be reached", put(1, api.ABlock{Term: back(api.Loc{})}), api.OK},
		{"one that leads to itself", put(1, api.ABlock{Term: jump(1)}), api.OK},
		{"one that leads to block 0", put(0, api.ABlock{Term: jump(0)}), api.OK},
		{"one that reads what was never set", put(0, api.ABlock{Term: api.ATerm{Kind: api.TermPanic, Value: reg(5)}}), api.OK},
		{"a wrong Term of a block that can't be reached", put(1, api.ABlock{Term: jump(2)}), api.ErrALIRForm},
		{"a wrong instruction in a block that can't be reached", put(1, api.ABlock{Body: []api.AIns{{Op: api.InsConst, Dst: reg(8)}}, Term: back(api.Loc{})}), api.ErrALIRForm},
		{"wrong Saves in a block that can't be reached", put(1, api.ABlock{Body: []api.AIns{{Op: api.InsCall, Saves: []int{8}}}, Term: back(api.Loc{})}), api.ErrALIRForm},
		{"an instruction behind a wrong one", func(a *api.ALIR) {
			a.Funcs[1].Blocks[0].Body = []api.AIns{{Op: api.InsConst, Dst: reg(0)}, {}, {Op: api.InsConst, Dst: reg(1)}}
		}, api.ErrALIRForm},
	})
	// Places that are read and were never set are allowed.
	holdTurns(t, "main() slots 2\n0: print r0; print s1; r1 add r2 s0; branch r7 1 0\n1: panic s1\nf(r0) int slots 1\n0: return s0", []turn{{"unset", func(a *api.ALIR) {}, api.OK}})
}

func TestP1903Names(t *testing.T) {
	long := strings.Repeat("n", api.MaxName)
	good := []string{"a", "Z", "_", "a1", "_9", "mainly", "Func", "funcs", "ifs", "integer", "truely", "Int", "printint", long, "_" + long[1:], "a_B_9"}
	wrong := []string{"", " ", "1", "9a", "a b", " a", "a ", "a;", "a-b", "a.b", "(", "a\n", "\ta", "a//", "//a", "é", "a\x00", "aé", "a\xff", long + "n", strings.Repeat("n", 1<<20),
		"func", "var", "if", "else", "for", "return", "break", "continue", "print", "panic", "input", "len", "make", "int", "bool", "true", "false", "nil"}
	var turns []turn
	for at := range 3 {
		for _, name := range good {
			turns = append(turns, turn{name, func(a *api.ALIR) { a.Funcs[at].Name = name }, api.OK})
		}
		for _, name := range wrong {
			turns = append(turns, turn{name, func(a *api.ALIR) { a.Funcs[at].Name = name }, api.ErrALIRForm})
		}
		for other := range 3 {
			turns = append(turns, turn{"one name twice", func(a *api.ALIR) { a.Funcs[at].Name = a.Funcs[other].Name }, wantIf(other == at)})
		}
	}
	turns = append(turns, turn{"names that differ in case", func(a *api.ALIR) { a.Funcs[0].Name, a.Funcs[1].Name = "main", "Main" }, api.OK})
	turns = append(turns, turn{"no function is called main", func(a *api.ALIR) { a.Funcs[1].Name = "start" }, api.OK})
	turns = append(turns, turn{"another one is called main", func(a *api.ALIR) { a.Funcs[0].Name, a.Funcs[1].Name = "main", "f" }, api.OK})
	holdTurns(t, "f()\n0: return\nmain()\n0: return\ng()\n0: return", turns)
}

func TestP1903Main(t *testing.T) {
	with := func(main int) func(a *api.ALIR) { return func(a *api.ALIR) { a.Main = main } }
	holdTurns(t, `none()
		0: return
		param(r0)
		0: return
		slotted(s0)
		0: return
		gives() int
		0: r0 const 1; return r0
		both(r0) ints
		0: return r0
		other()
		0: return
		main()
		0: return`, []turn{
		{"the first", with(0), api.OK},
		{"one with a Param", with(1), api.ErrALIRForm},
		{"one with a Param that is a slot", with(2), api.ErrALIRForm},
		{"one with a Result", with(3), api.ErrALIRForm},
		{"one with both", with(4), api.ErrALIRForm},
		{"another one", with(5), api.OK},
		{"the last", with(6), api.OK},
		{"one past it", with(7), api.ErrALIRForm},
		{"-1", with(-1), api.ErrALIRForm},
		{"the least", with(math.MinInt), api.ErrALIRForm},
		{"the greatest", with(math.MaxInt), api.ErrALIRForm},
		{"no function", func(a *api.ALIR) { a.Funcs = nil }, api.ErrALIRForm},
		{"no function and Main 0", func(a *api.ALIR) { *a = api.ALIR{} }, api.ErrALIRForm},
		{"no function and Main -1", func(a *api.ALIR) { *a = api.ALIR{Main: -1} }, api.ErrALIRForm},
	})
	for _, result := range []int{api.TypeInt, api.TypeBool, api.TypeInts} {
		a := sample.ALIR("main() int\n0: r0 const 0; return r0")
		a.Funcs[0].Result = result
		holdCheck(t, "main with a Result", a, api.ErrALIRForm)
	}
}
