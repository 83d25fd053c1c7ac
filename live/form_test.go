package live_test

import (
	"math"
	"slices"
	"testing"

	"quern/api"
	"quern/live"
)

func back(value int) api.Term { return api.Term{Kind: api.TermReturn, Value: value} }

func crash(value int) api.Term { return api.Term{Kind: api.TermPanic, Value: value} }

func jump(to int) api.Term { return api.Term{Kind: api.TermJump, Value: -1, To: []int{to}} }

func branch(value, yes, no int) api.Term {
	return api.Term{Kind: api.TermBranch, Value: value, To: []int{yes, no}}
}

// holdForm asks both calls of a function, with lines that are right and wrong: the form is asked for first.
func holdForm(t *testing.T, what string, f api.LFunc, formed bool) {
	t.Helper()
	good := inOrder(f)
	ahead, behind, e := live.Live(f)
	list, why := live.Intervals(f, good)
	if formed {
		if e != api.OK || why != api.OK || len(ahead) != len(f.Blocks) || len(behind) != len(f.Blocks) {
			t.Errorf("%s: %v and %v", what, e, why)
		}
		if list, e := live.Intervals(f, good[1:]); e != api.ErrLine || list != nil {
			t.Errorf("%s, a line that is too short: %v", what, e)
		}
		return
	}
	if e != api.ErrLIRForm || ahead != nil || behind != nil {
		t.Errorf("P1702: Live, %s: %v, %v, %v", what, e, ahead, behind)
	}
	if why != api.ErrLIRForm || list != nil {
		t.Errorf("P1704: Intervals, %s: %v, %v", what, why, list)
	}
	for _, line := range [][]int{nil, {0}, {0, 0}, {-1}, append(good, 0), append(good, len(good)), {math.MinInt}} {
		if list, why := live.Intervals(f, line); why != api.ErrLIRForm || list != nil {
			t.Errorf("P1704: Intervals, %s, in the line %v: %v, %v", what, line, why, list)
		}
	}
}

// base has all its blocks' bodies and ends right; its last block can't be reached.
func base() api.LFunc {
	return first(`f(r0, r1) int regs 4
		0: r2 const 3; r3 add r0 r2; branch r3 1 2
		1: store r0 r1 r2; r2 call f r0 r1; jump 2
		2: trapzero 1 r0; trapbound 2 r0 r1; r3 load r0 r1; return r3
		3: print r0; panic r0`)
}

func holdTurned(t *testing.T, what string, formed bool, turn func(f *api.LFunc)) {
	t.Helper()
	f := base()
	turn(&f)
	holdForm(t, what, f, formed)
}

func TestFormOfFunctions(t *testing.T) {
	for _, x := range []struct {
		what   string
		formed bool
		turn   func(f *api.LFunc)
	}{
		{"nothing", true, func(f *api.LFunc) {}},
		{"no name", true, func(f *api.LFunc) { f.Name = "" }},
		{"a word as its name", true, func(f *api.LFunc) { f.Name = "for" }},
		{"MaxRegs", true, func(f *api.LFunc) { f.Regs = api.MaxRegs }},
		{"one past MaxRegs", false, func(f *api.LFunc) { f.Regs = api.MaxRegs + 1 }},
		{"the most Regs", false, func(f *api.LFunc) { f.Regs = math.MaxInt }},
		{"Regs -1", false, func(f *api.LFunc) { f.Regs = -1 }},
		{"the least Regs", false, func(f *api.LFunc) { f.Regs = math.MinInt }},
		{"Regs 3", false, func(f *api.LFunc) { f.Regs = 3 }},
		{"Regs 0", false, func(f *api.LFunc) { f.Regs = 0 }},
		{"no Params", true, func(f *api.LFunc) { f.Params = nil }},
		{"eight Params", true, func(f *api.LFunc) { f.Regs, f.Params = 9, []int{8, 7, 6, 5, 4, 3, 2, 1} }},
		{"nine Params", false, func(f *api.LFunc) { f.Regs, f.Params = 9, []int{8, 7, 6, 5, 4, 3, 2, 1, 0} }},
		{"a Param twice", false, func(f *api.LFunc) { f.Params = []int{0, 1, 0} }},
		{"the Param -1", false, func(f *api.LFunc) { f.Params = []int{0, -1} }},
		{"the Param Regs", false, func(f *api.LFunc) { f.Params = []int{4} }},
		{"the greatest Param", false, func(f *api.LFunc) { f.Params = []int{math.MaxInt} }},
		{"the Result TypeBool", true, func(f *api.LFunc) { f.Result = api.TypeBool }},
		{"the Result TypeInts", true, func(f *api.LFunc) { f.Result = api.TypeInts }},
		{"the Result TypeNone, with a value", false, func(f *api.LFunc) { f.Result = api.TypeNone }},
		{"the Result TypeNone", true, func(f *api.LFunc) { f.Result, f.Blocks[2].Term = api.TypeNone, back(-1) }},
		{"the Result 4", false, func(f *api.LFunc) { f.Result = 4 }},
		{"the Result -1", false, func(f *api.LFunc) { f.Result = -1 }},
		{"no block", false, func(f *api.LFunc) { f.Blocks = nil }},
		{"an empty list of blocks", false, func(f *api.LFunc) { f.Blocks = f.Blocks[:0] }},
		{"an empty block", false, func(f *api.LFunc) { f.Blocks[1] = api.LBlock{} }},
		{"nothing at all", false, func(f *api.LFunc) { *f = api.LFunc{} }},
		{"a call of any function", true, func(f *api.LFunc) { f.Blocks[1].Body[1].Imm = math.MaxInt }},
		{"a call with Args and a Dst that the function may not have", true, func(f *api.LFunc) {
			f.Blocks[1].Body[1] = api.LIns{Op: api.InsCall, Dst: 2, Imm: 99, Args: make([]int, api.MaxParams)}
		}},
	} {
		holdTurned(t, x.what, x.formed, x.turn)
	}
}

// form: how an instruction of some Ops looks.
type form struct {
	ops  []int
	args int
	sets bool
	imms []int // which may be
	nots []int // which may not
}

func forms() []form {
	zero, not := []int{0}, []int{-1, 1, math.MinInt, math.MaxInt}
	kinds, notKinds := []int{api.PanicDivide, api.PanicIndex, api.PanicShift, api.PanicMake, api.PanicInput}, []int{0, -1, api.PanicUser, api.PanicStack, math.MaxInt}
	return []form{
		{[]int{api.InsConst}, 0, true, []int{0, 7, -7, math.MinInt, math.MaxInt}, nil},
		{[]int{api.InsAdd, api.InsSub, api.InsMul, api.InsDiv, api.InsRem, api.InsAnd, api.InsOr, api.InsXor, api.InsBic, api.InsShl, api.InsShr,
			api.InsEq, api.InsNe, api.InsLt, api.InsLe, api.InsLoad}, 2, true, zero, not},
		{[]int{api.InsNeg, api.InsInv, api.InsNot, api.InsLen, api.InsAlloc, api.InsMove}, 1, true, zero, not},
		{[]int{api.InsStore}, 3, false, zero, not},
		{[]int{api.InsInput}, 0, true, zero, not},
		{[]int{api.InsPrintInt, api.InsPrintBool}, 1, false, zero, not},
		{[]int{api.InsTrapZero, api.InsTrapNeg}, 1, false, kinds, notKinds},
		{[]int{api.InsTrapBound}, 2, false, kinds, notKinds},
	}
}

// each puts an instruction at each place of each block.
func each(t *testing.T, what string, formed bool, x api.LIns) {
	t.Helper()
	for b, block := range base().Blocks {
		for i := range len(block.Body) + 1 {
			holdTurned(t, what, formed, func(f *api.LFunc) { f.Blocks[b].Body = slices.Insert(f.Blocks[b].Body, i, x) })
		}
	}
}

func TestFormOfInstructions(t *testing.T) {
	for _, s := range forms() {
		for _, op := range s.ops {
			right := func() api.LIns {
				x := api.LIns{Op: op, Dst: -1, Imm: s.imms[0], Args: []int{3, 2, 1}[:s.args]}
				if s.sets {
					x.Dst = 3
				}
				return x
			}
			each(t, "right", true, right())
			for _, imm := range s.imms {
				x := right()
				x.Imm = imm
				each(t, "an Imm", true, x)
			}
			for _, imm := range s.nots {
				x := right()
				x.Imm = imm
				each(t, "a wrong Imm", false, x)
			}
			for n := range 6 {
				x := right()
				x.Args = make([]int, n)
				each(t, "a number of Args", n == s.args, x)
			}
			for i := range s.args {
				for _, wrong := range []int{-1, 4, math.MinInt, math.MaxInt} {
					x := right()
					x.Args[i] = wrong
					each(t, "a wrong Arg", false, x)
				}
			}
			for _, dst := range []int{-2, -1, 0, 3, 4, math.MinInt, math.MaxInt} {
				x := right()
				x.Dst = dst
				each(t, "a Dst", s.sets && (dst == 0 || dst == 3) || !s.sets && dst == -1, x)
			}
		}
	}
	for _, op := range []int{api.InsPhi, api.InsParam, 0, -1, 34, math.MinInt, math.MaxInt} {
		for n := range 4 {
			for _, dst := range []int{-1, 0} {
				each(t, "no Op", false, api.LIns{Op: op, Dst: dst, Args: make([]int, n)})
			}
		}
	}
}

func TestFormOfCalls(t *testing.T) {
	call := func(dst, imm int, args ...int) api.LIns {
		return api.LIns{Op: api.InsCall, Dst: dst, Imm: imm, Args: args}
	}
	for n := range 11 {
		each(t, "a call", n <= api.MaxParams, call(0, 1, make([]int, n)...))
		each(t, "a call without Dst", n <= api.MaxParams, call(-1, 1, make([]int, n)...))
	}
	for _, imm := range []int{math.MinInt, -1, 0, 1, 99, math.MaxInt} {
		each(t, "a call's Imm", imm >= 0, call(0, imm, 1))
	}
	for _, dst := range []int{math.MinInt, -2, -1, 0, 3, 4, math.MaxInt} {
		each(t, "a call's Dst", dst >= -1 && dst < 4, call(dst, 0))
	}
	for _, arg := range []int{math.MinInt, -1, 0, 3, 4, math.MaxInt} {
		each(t, "a call's Arg", arg >= 0 && arg < 4, call(-1, 0, 0, 1, arg))
	}
}

func TestFormOfTerms(t *testing.T) {
	term := func(kind, value int, to ...int) api.Term { return api.Term{Kind: kind, Value: value, To: to} }
	for _, x := range []struct {
		term   api.Term
		formed bool
	}{
		{jump(0), true}, {jump(3), true}, {jump(4), false}, {jump(-1), false}, {jump(math.MaxInt), false}, {jump(math.MinInt), false},
		{term(api.TermJump, 0, 1), false}, {term(api.TermJump, -2, 1), false}, {term(api.TermJump, -1), false}, {term(api.TermJump, -1, 1, 1), false},
		{branch(0, 0, 1), true}, {branch(3, 3, 3), true}, {branch(4, 0, 1), false}, {branch(-1, 0, 1), false}, {branch(math.MaxInt, 0, 1), false},
		{branch(0, 4, 1), false}, {branch(0, 1, 4), false}, {branch(0, -1, 1), false}, {branch(0, 1, -1), false},
		{term(api.TermBranch, 0), false}, {term(api.TermBranch, 0, 1), false}, {term(api.TermBranch, 0, 1, 2, 3), false},
		{back(0), true}, {back(3), true}, {back(4), false}, {back(-1), false}, {back(-2), false}, {term(api.TermReturn, 0, 1), false},
		{crash(0), true}, {crash(3), true}, {crash(4), false}, {crash(-1), false}, {term(api.TermPanic, 0, 1), false}, {term(api.TermPanic, 0, 1, 2), false},
		{term(0, -1), false}, {term(5, -1), false}, {term(-1, -1), false}, {term(0, 0, 1), false}, {term(5, 0, 1, 2), false}, {term(math.MaxInt, -1), false}, {term(math.MinInt, -1), false},
	} {
		for b := range base().Blocks {
			holdTurned(t, "a Term", x.formed, func(f *api.LFunc) { f.Blocks[b].Term = x.term })
		}
	}
	for _, x := range []struct { // of a function without a result
		value  int
		formed bool
	}{{-1, true}, {0, false}, {3, false}, {4, false}, {-2, false}} {
		holdTurned(t, "a return", x.formed, func(f *api.LFunc) { f.Result, f.Blocks[2].Term = api.TypeNone, back(x.value) })
	}
}
