package ssa_test

import (
	"math"
	"reflect"
	"slices"
	"strings"
	"testing"

	"quern/api"
	"quern/ssa"
)

const none, num, truth, list = api.TypeNone, api.TypeInt, api.TypeBool, api.TypeInts

func val(op, typ, imm int, args ...int) api.Value {
	return api.Value{Op: op, Type: typ, Imm: imm, Args: args}
}

func jump(to int) api.Term { return api.Term{Kind: api.TermJump, Value: -1, To: []int{to}} }

func branch(v, yes, no int) api.Term {
	return api.Term{Kind: api.TermBranch, Value: v, To: []int{yes, no}}
}

func back(v int) api.Term { return api.Term{Kind: api.TermReturn, Value: v} }

func fall(v int) api.Term { return api.Term{Kind: api.TermPanic, Value: v} }

// loop is the program of the chapter's examples.
func loop() *api.SSA {
	return &api.SSA{Funcs: []api.SFunc{{Name: "main", Values: []api.Value{
		val(api.InsConst, num, 0),
		val(api.InsPhi, num, 0, 0, 6),
		val(api.InsConst, num, 3),
		val(api.InsLt, truth, 0, 1, 2),
		val(api.InsPrintInt, none, 0, 1),
		val(api.InsConst, num, 1),
		val(api.InsAdd, num, 0, 1, 5),
	}, Blocks: []api.Block{
		{Body: []int{0}, Term: jump(1)},
		{Phis: []int{1}, Body: []int{2, 3}, Preds: []int{0, 2}, Term: branch(3, 2, 3)},
		{Body: []int{4, 5, 6}, Preds: []int{1}, Term: jump(1)},
		{Preds: []int{1}, Term: back(-1)},
	}}}}
}

// straight is a program of one block, with all its values in their order.
func straight(values []api.Value, t api.Term) *api.SSA {
	f := api.SFunc{Name: "main", Values: values, Blocks: []api.Block{{Term: t}}}
	for v := range values {
		f.Blocks[0].Body = append(f.Blocks[0].Body, v)
	}
	return &api.SSA{Funcs: []api.SFunc{f}}
}

func want(t *testing.T, what string, s *api.SSA, e api.Errno) {
	t.Helper()
	if is := ssa.Check(*s); is != e {
		t.Errorf("%s: %v, want %v", what, is, e)
	}
}

// turn: one thing turned in a program.
type turn struct {
	what string
	do   func(s *api.SSA, f *api.SFunc)
	want api.Errno
}

func wantTurned(t *testing.T, promise string, base func() *api.SSA, turns []turn) {
	t.Helper()
	want(t, promise+": nothing turned", base(), api.OK)
	for _, x := range turns {
		s := base()
		x.do(s, &s.Funcs[0])
		want(t, promise+": "+x.what, s, x.want)
	}
}

func TestExamples(t *testing.T) {
	wantTurned(t, "examples", loop, []turn{
		{"the name for", func(_ *api.SSA, f *api.SFunc) { f.Name = "for" }, api.ErrSSAForm},
		{"Main 1", func(s *api.SSA, _ *api.SFunc) { s.Main = 1 }, api.ErrSSAForm},
		{"no block", func(_ *api.SSA, f *api.SFunc) { f.Blocks = nil }, api.ErrSSAForm},
		{"v2's Args v9", func(_ *api.SSA, f *api.SFunc) { f.Values[2].Args = []int{9} }, api.ErrSSAForm},
		{"jump to 4", func(_ *api.SSA, f *api.SFunc) { f.Blocks[0].Term = jump(4) }, api.ErrSSAForm},
		{"v4 a Move", func(_ *api.SSA, f *api.SFunc) { f.Values[4].Op = api.InsMove }, api.ErrSSAForm},
		{"a return of v0", func(_ *api.SSA, f *api.SFunc) { f.Blocks[3].Term = back(0) }, api.ErrSSAForm},
		{"Preds 2 0", func(_ *api.SSA, f *api.SFunc) { f.Blocks[1].Preds = []int{2, 0} }, api.ErrSSAPreds},
		{"block 3 without Preds", func(_ *api.SSA, f *api.SFunc) { f.Blocks[3].Preds = nil }, api.ErrSSAPreds},
		{"block 4 by itself", func(_ *api.SSA, f *api.SFunc) {
			f.Blocks = append(f.Blocks, api.Block{Preds: []int{4}, Term: jump(4)})
		}, api.ErrSSAReach},
		{"the same with Preds none", func(_ *api.SSA, f *api.SFunc) { f.Blocks = append(f.Blocks, api.Block{Term: jump(4)}) }, api.ErrSSAPreds},
		{"v1 with one Arg", func(_ *api.SSA, f *api.SFunc) { f.Values[1].Args = []int{0} }, api.ErrSSAPhi},
		{"v1 in Body", func(_ *api.SSA, f *api.SFunc) { f.Blocks[1].Phis, f.Blocks[1].Body = nil, []int{1, 2, 3} }, api.ErrSSAPhi},
		{"a Phi without Args in block 0", func(_ *api.SSA, f *api.SFunc) {
			f.Values = append(f.Values, val(api.InsPhi, num, 0))
			f.Blocks[0].Phis = []int{7}
		}, api.ErrSSAPhi},
		{"v5 in block 3, too", func(_ *api.SSA, f *api.SFunc) { f.Blocks[3].Body = []int{5} }, api.ErrSSATwice},
		{"v2 in no block", func(_ *api.SSA, f *api.SFunc) { f.Blocks[1].Body = []int{3} }, api.ErrSSATwice},
		{"v3's Type int", func(_ *api.SSA, f *api.SFunc) { f.Values[3].Type = num }, api.ErrSSAType},
		{"v4 a PrintBool", func(_ *api.SSA, f *api.SFunc) { f.Values[4].Op = api.InsPrintBool }, api.ErrSSAType},
		{"v0 Const 0 bool", func(_ *api.SSA, f *api.SFunc) { f.Values[0].Type = truth }, api.ErrSSAType},
		{"v2 Const 2 bool", func(_ *api.SSA, f *api.SFunc) { f.Values[2] = val(api.InsConst, truth, 2) }, api.ErrSSAType},
		{"block 2's Body v6 v4 v5", func(_ *api.SSA, f *api.SFunc) { f.Blocks[2].Body = []int{6, 4, 5} }, api.ErrSSAUse},
		{"v0 in block 2", func(_ *api.SSA, f *api.SFunc) { f.Blocks[0].Body, f.Blocks[2].Body = nil, []int{0, 4, 5, 6} }, api.ErrSSAUse},
	})
}

// The first values of the programs that hold one Op against P901: one of each type, and one without.
func basis() []api.Value {
	return []api.Value{
		val(api.InsPrintInt, none, 0, 1),
		val(api.InsConst, num, -7),
		val(api.InsConst, truth, 1),
		val(api.InsConst, list, 0),
	}
}

// withOp is a program with the basis and one value more, of that Op. (The one without a Type uses an int, so that one stands first.)
func withOp(v api.Value) *api.SSA {
	s := straight(append(basis(), v), back(-1))
	s.Funcs[0].Blocks[0].Body = []int{1, 0, 2, 3, 4}
	return s
}

// ops are P901's rows that hang on the Op alone: the Args' types stand for the basis' values, too.
var ops = []struct {
	ops   []int
	args  []int
	gives int
}{
	{[]int{api.InsAdd, api.InsSub, api.InsMul, api.InsDiv, api.InsRem, api.InsAnd, api.InsOr, api.InsXor, api.InsBic, api.InsShl, api.InsShr}, []int{num, num}, num},
	{[]int{api.InsLt, api.InsLe}, []int{num, num}, truth},
	{[]int{api.InsNeg, api.InsInv}, []int{num}, num},
	{[]int{api.InsNot}, []int{truth}, truth},
	{[]int{api.InsLen}, []int{list}, num},
	{[]int{api.InsLoad}, []int{list, num}, num},
	{[]int{api.InsStore}, []int{list, num, num}, none},
	{[]int{api.InsAlloc}, []int{num}, list},
	{[]int{api.InsInput}, nil, num},
	{[]int{api.InsPrintInt}, []int{num}, none},
	{[]int{api.InsPrintBool}, []int{truth}, none},
	{[]int{api.InsTrapZero, api.InsTrapNeg}, []int{num}, none},
	{[]int{api.InsTrapBound}, []int{num, num}, none},
}

func isTrap(op int) bool {
	return slices.Contains([]int{api.InsTrapZero, api.InsTrapNeg, api.InsTrapBound}, op)
}

func TestP901Ops(t *testing.T) {
	for _, row := range ops {
		for _, op := range row.ops {
			good := func() api.Value {
				v := val(op, row.gives, 0, slices.Clone(row.args)...)
				if isTrap(op) {
					v.Imm = api.PanicIndex
				}
				return v
			}
			want(t, "P901: right", withOp(good()), api.OK)
			wantArgs(t, good, row.args)
			wantTypes(t, good, row.gives)
			wantImms(t, good)
		}
	}
}

func wantArgs(t *testing.T, good func() api.Value, args []int) {
	t.Helper()
	for n := range 6 {
		v := good()
		v.Args = slices.Repeat([]int{num}, n)
		if n != len(args) {
			want(t, "P903: the number of Args", withOp(v), api.ErrSSAForm)
		}
	}
	for i := range args {
		for typ := none; typ <= list; typ++ {
			if v := good(); typ != args[i] {
				v.Args[i] = typ
				want(t, "P908: an Arg's type", withOp(v), api.ErrSSAType)
			}
		}
		for _, n := range []int{-1, 5, math.MinInt, math.MaxInt} {
			v := good()
			v.Args[i] = n
			want(t, "P903: an Arg", withOp(v), api.ErrSSAForm)
		}
	}
}

func wantTypes(t *testing.T, good func() api.Value, gives int) {
	t.Helper()
	for typ := none; typ <= list; typ++ {
		if v := good(); typ != gives {
			v.Type = typ
			want(t, "P908: a Type", withOp(v), api.ErrSSAType)
		}
	}
	for _, typ := range []int{-1, 4, math.MinInt, math.MaxInt} {
		v := good()
		v.Type = typ
		want(t, "P903: a Type that is none", withOp(v), api.ErrSSAForm)
	}
}

func wantImms(t *testing.T, good func() api.Value) {
	t.Helper()
	for imm := -2; imm < 9; imm++ {
		v := good()
		v.Imm = imm
		e := api.ErrSSAForm
		if isTrap(v.Op) && 1 <= imm && imm <= 5 || !isTrap(v.Op) && imm == 0 {
			e = api.OK
		}
		want(t, "P903: an Imm", withOp(v), e)
	}
	for _, imm := range []int{math.MinInt, math.MaxInt} {
		v := good()
		v.Imm = imm
		want(t, "P903: an Imm", withOp(v), api.ErrSSAForm)
	}
}

func TestP901NoOps(t *testing.T) {
	for _, op := range []int{0, -1, api.InsMove, 34, 35, math.MinInt, math.MaxInt} {
		for n := range 4 {
			want(t, "P901: no Op", withOp(val(op, num, 0, slices.Repeat([]int{num}, n)...)), api.ErrSSAForm)
		}
	}
}

func TestP901Const(t *testing.T) {
	for _, imm := range []int{0, 1, 2, -1, math.MinInt, math.MaxInt} {
		is := func(good bool) api.Errno {
			if good {
				return api.OK
			}
			return api.ErrSSAType
		}
		want(t, "P901: an int", withOp(val(api.InsConst, num, imm)), api.OK)
		want(t, "P901: a bool", withOp(val(api.InsConst, truth, imm)), is(imm == 0 || imm == 1))
		want(t, "P901: a []int", withOp(val(api.InsConst, list, imm)), is(imm == 0))
		want(t, "P908: a Const without a Type", withOp(val(api.InsConst, none, imm)), api.ErrSSAType)
		want(t, "P903: a Const of no type", withOp(val(api.InsConst, 4, imm)), api.ErrSSAForm)
		want(t, "P903: a Const with an Arg", withOp(val(api.InsConst, num, imm, 1)), api.ErrSSAForm)
	}
}

func TestP901EqNe(t *testing.T) {
	for _, op := range []int{api.InsEq, api.InsNe} {
		for a := none; a <= list; a++ {
			for b := none; b <= list; b++ {
				for typ := none; typ <= list; typ++ {
					e := api.ErrSSAType
					if a == b && a != none && typ == truth {
						e = api.OK
					}
					want(t, "P901: Eq, Ne", withOp(val(op, typ, 0, a, b)), e)
				}
			}
		}
		want(t, "P903: one Arg", withOp(val(op, truth, 0, num)), api.ErrSSAForm)
		want(t, "P903: three Args", withOp(val(op, truth, 0, num, num, num)), api.ErrSSAForm)
		want(t, "P903: an Imm", withOp(val(op, truth, 1, num, num)), api.ErrSSAForm)
		want(t, "P903: a Type", withOp(val(op, 4, 0, num, num)), api.ErrSSAForm)
		want(t, "P903: no value", withOp(val(op, truth, 0, num, 5)), api.ErrSSAForm)
	}
}

// called is a function with Params of these types and a Result, of which it has a value.
func called(name string, result int, params ...int) api.SFunc {
	f := api.SFunc{Name: name, Result: result, Blocks: []api.Block{{Term: back(-1)}}}
	for i, typ := range params {
		f.Params = append(f.Params, i)
		f.Values = append(f.Values, val(api.InsParam, typ, i))
	}
	if result != none {
		f.Blocks[0] = api.Block{Body: []int{len(params)}, Term: back(len(params))}
		f.Values = append(f.Values, val(api.InsConst, result, 0))
	}
	return f
}

func TestP901Call(t *testing.T) {
	with := func(v api.Value) *api.SSA {
		s := withOp(v)
		s.Funcs = append(s.Funcs, called("f", none), called("g", num, truth, num), called("h", truth, list), called("k", list))
		return s
	}
	for _, x := range []struct {
		what string
		v    api.Value
		want api.Errno
	}{
		{"f", val(api.InsCall, none, 1), api.OK},
		{"g", val(api.InsCall, num, 2, truth, num), api.OK},
		{"h", val(api.InsCall, truth, 3, list), api.OK},
		{"k", val(api.InsCall, list, 4), api.OK},
		{"main", val(api.InsCall, none, 0), api.OK},
		{"a function 5", val(api.InsCall, none, 5), api.ErrSSAForm},
		{"a function -1", val(api.InsCall, none, -1), api.ErrSSAForm},
		{"the least function", val(api.InsCall, none, math.MinInt), api.ErrSSAForm},
		{"the greatest function", val(api.InsCall, none, math.MaxInt), api.ErrSSAForm},
		{"f with an Arg", val(api.InsCall, none, 1, num), api.ErrSSAForm},
		{"g with one Arg", val(api.InsCall, num, 2, truth), api.ErrSSAForm},
		{"g with three Args", val(api.InsCall, num, 2, truth, num, num), api.ErrSSAForm},
		{"h with no Arg", val(api.InsCall, truth, 3), api.ErrSSAForm},
		{"f with a Type", val(api.InsCall, num, 1), api.ErrSSAType},
		{"g without a Type", val(api.InsCall, none, 2, truth, num), api.ErrSSAType},
		{"g of another Type", val(api.InsCall, truth, 2, truth, num), api.ErrSSAType},
		{"g's Args turned round", val(api.InsCall, num, 2, num, truth), api.ErrSSAType},
		{"g with two bools", val(api.InsCall, num, 2, truth, truth), api.ErrSSAType},
		{"h of an int", val(api.InsCall, truth, 3, num), api.ErrSSAType},
		{"h of a value without a Type", val(api.InsCall, truth, 3, 0), api.ErrSSAType},
	} {
		want(t, "P901: a call of "+x.what, with(x.v), x.want)
	}
}

// TestP908NoType: a Param without a Type takes nothing, not even a value without one; the call is looked at ahead of the function that it calls.
func TestP908NoType(t *testing.T) {
	for arg := none; arg <= list; arg++ {
		s := withOp(val(api.InsCall, none, 1, arg))
		s.Funcs = append(s.Funcs, called("f", none, none))
		s.Funcs[1].Blocks[0].Preds = []int{0}
		want(t, "P908: where a Param without a Type is to be", s, api.ErrSSAType)
	}
	s := withOp(val(api.InsConst, num, 0))
	s.Funcs = append(s.Funcs, called("f", none, num, none))
	want(t, "P908: a Param without a Type that nobody calls", s, api.ErrSSAType)
}

// turnedTerm is a function f with a value of each type, and one without, two blocks behind and that Term.
func turnedTerm(result int, term api.Term) *api.SSA {
	s := withOp(val(api.InsConst, num, 0))
	f := s.Funcs[0]
	f.Name, f.Result, f.Blocks[0].Term = "f", result, term
	good := -1
	if result != none {
		good = result
	}
	f.Blocks = append(f.Blocks, api.Block{Term: back(good)}, api.Block{Term: back(good)})
	from := [3][]int{}
	for _, to := range term.To {
		if to >= 0 && to < 3 {
			from[to] = append(from[to], 0)
		}
	}
	for b := range from {
		f.Blocks[b].Preds = from[b]
	}
	for len(f.Blocks) > 1 && len(f.Blocks[len(f.Blocks)-1].Preds) == 0 { // so that a way leads to all that are left
		f.Blocks = f.Blocks[:len(f.Blocks)-1]
	}
	return &api.SSA{Funcs: []api.SFunc{called("main", none), f}}
}

func TestP902Terms(t *testing.T) {
	edges := []int{-2, 5, math.MinInt, math.MaxInt}
	for result := none; result <= list; result++ {
		for kind := -1; kind <= 6; kind++ {
			for _, to := range [][]int{nil, {1}, {1, 2}, {2, 1}, {1, 1}, {1, 2, 1}} {
				for value := -1; value <= 4; value++ {
					wantTerm(t, result, api.Term{Kind: kind, Value: value, To: to})
				}
				for _, value := range edges {
					want(t, "P902: no value", turnedTerm(result, api.Term{Kind: kind, Value: value, To: to}), api.ErrSSAForm)
				}
			}
		}
	}
	for _, n := range []int{-1, 3, math.MinInt, math.MaxInt} {
		want(t, "P902: a jump to no block", turnedTerm(none, jump(n)), api.ErrSSAForm)
		want(t, "P902: a branch to no block", turnedTerm(none, branch(truth, n, 1)), api.ErrSSAForm)
		want(t, "P902: a branch to no block", turnedTerm(none, branch(truth, 1, n)), api.ErrSSAForm)
	}
}

// wantTerm holds a Term against P902; the values 0 to 3 have the types 0 to 3, and 4 is an int.
func wantTerm(t *testing.T, result int, term api.Term) {
	t.Helper()
	typ, length, uses := 0, 0, true
	switch term.Kind {
	case api.TermJump:
		length, uses = 1, false
	case api.TermBranch:
		length, typ = 2, truth
	case api.TermReturn:
		uses, typ = result != none, result
	case api.TermPanic:
		typ = num
	default:
		length = -1
	}
	e := api.OK
	has := []int{none, num, truth, list, num}
	if len(term.To) != length || uses != (term.Value != -1) {
		e = api.ErrSSAForm
	} else if uses && has[term.Value] != typ {
		e = api.ErrSSAType
	}
	want(t, "P902: a Term", turnedTerm(result, term), e)
}

func TestP903Names(t *testing.T) {
	for _, name := range strings.Fields("func var if else for return break continue print panic input len make int bool true false nil") {
		s := loop()
		s.Funcs[0].Name = name
		want(t, "P903: the name "+name, s, api.ErrSSAForm)
	}
	for _, name := range []string{"", " ", "1", "a b", "a-b", "é", "main ", "\x00", strings.Repeat("q", api.MaxName+1)} {
		s := loop()
		s.Funcs[0].Name = name
		want(t, "P903: the name "+name, s, api.ErrSSAForm)
	}
	for _, name := range []string{"_", "x", "Main", "fors", "a1_", strings.Repeat("q", api.MaxName)} {
		s := loop()
		s.Funcs[0].Name = name // no level but the tree asks that Main is called main
		want(t, "P903: the name "+name, s, api.OK)
	}
	s := loop()
	s.Funcs = append(s.Funcs, called("f", num), called("g", none, num), called("f", num))
	want(t, "P903: two of one name", s, api.ErrSSAForm)
	s.Funcs[3].Name = "main"
	want(t, "P903: two of one name", s, api.ErrSSAForm)
	s.Funcs[3].Name = "h"
	want(t, "P903: unlike names", s, api.OK)
	s.Funcs[3].Name = "if"
	want(t, "P903: the last name", s, api.ErrSSAForm)
}

func TestP903Main(t *testing.T) {
	s := &api.SSA{Funcs: []api.SFunc{called("a", none), called("b", none, num), called("c", truth), called("d", none)}}
	for main, e := range map[int]api.Errno{
		0: api.OK, 1: api.ErrSSAForm, 2: api.ErrSSAForm, 3: api.OK,
		4: api.ErrSSAForm, -1: api.ErrSSAForm, math.MinInt: api.ErrSSAForm, math.MaxInt: api.ErrSSAForm,
	} {
		s.Main = main
		want(t, "P903: Main", s, e)
	}
	want(t, "P903: no function", &api.SSA{}, api.ErrSSAForm)
	want(t, "P903: no function", &api.SSA{Funcs: []api.SFunc{}, Main: -1}, api.ErrSSAForm)
}

func TestP903Limits(t *testing.T) {
	with := func(n int) *api.SSA {
		return &api.SSA{Funcs: []api.SFunc{called("main", none), called("f", num, slices.Repeat([]int{truth}, n)...)}}
	}
	want(t, "P903: MaxParams", with(api.MaxParams), api.OK)
	want(t, "P903: one Param more", with(api.MaxParams+1), api.ErrSSAForm)
	values := slices.Repeat([]api.Value{val(api.InsConst, num, 1)}, api.MaxRegs)
	want(t, "P903: MaxRegs - 1 values", straight(values[:api.MaxRegs-1], back(-1)), api.OK)
	want(t, "P903: MaxRegs values", straight(values, back(-1)), api.ErrSSAForm)
	s := straight(values, back(-1)) // too many values, that stand nowhere
	s.Funcs[0].Blocks[0].Body = nil
	want(t, "P903: MaxRegs values", s, api.ErrSSAForm)
	for _, n := range []int{-1, 4, math.MinInt, math.MaxInt} {
		s := &api.SSA{Funcs: []api.SFunc{called("main", none), called("f", num)}}
		s.Funcs[1].Result = n
		want(t, "P903: a Result", s, api.ErrSSAForm)
	}
	s = loop()
	s.Funcs = append(s.Funcs, called("f", num))
	s.Funcs[1].Blocks = []api.Block{}
	want(t, "P903: no block", s, api.ErrSSAForm)
}

func TestP903Numbers(t *testing.T) {
	edges := func(beyond int) []int { return []int{-1, beyond, math.MinInt, math.MaxInt} }
	base := func() *api.SSA {
		s := loop()
		s.Funcs = append(s.Funcs, called("f", num, num, truth))
		return s
	}
	want(t, "P903: base", base(), api.OK)
	for _, n := range edges(7) {
		for _, set := range []func(f *api.SFunc){
			func(f *api.SFunc) { f.Values[1].Args[0] = n },
			func(f *api.SFunc) { f.Values[1].Args[1] = n },
			func(f *api.SFunc) { f.Blocks[1].Phis[0] = n },
			func(f *api.SFunc) { f.Blocks[3].Phis = []int{n} },
			func(f *api.SFunc) { f.Blocks[2].Body[2] = n },
			func(f *api.SFunc) { f.Blocks[3].Body = []int{n} },
			func(f *api.SFunc) { f.Params = []int{n} },
		} {
			s := base()
			set(&s.Funcs[0])
			want(t, "P903: no value's number", s, api.ErrSSAForm)
		}
	}
	for _, n := range edges(4) {
		for _, set := range []func(f *api.SFunc){
			func(f *api.SFunc) { f.Blocks[0].Term.To[0] = n },
			func(f *api.SFunc) { f.Blocks[1].Term.To[1] = n },
			func(f *api.SFunc) { f.Blocks[1].Preds[1] = n },
			func(f *api.SFunc) { f.Blocks[0].Preds = []int{n} },
			func(f *api.SFunc) { f.Blocks[3].Preds = append(f.Blocks[3].Preds, n) },
		} {
			s := base()
			set(&s.Funcs[0])
			want(t, "P903: no block's number", s, api.ErrSSAForm)
		}
	}
	for _, n := range edges(3) {
		s := base()
		s.Funcs[1].Params[1] = n
		want(t, "P903: a Param's number", s, api.ErrSSAForm)
	}
}

func TestP903Params(t *testing.T) {
	base := func() *api.SSA {
		f := called("f", num, num, truth)
		return &api.SSA{Funcs: []api.SFunc{f, called("main", none)}, Main: 1}
	}
	wantTurned(t, "P903", base, []turn{
		{"Params turned round", func(_ *api.SSA, f *api.SFunc) { f.Params = []int{1, 0} }, api.ErrSSAForm},
		{"Params turned round, with their places", func(_ *api.SSA, f *api.SFunc) {
			f.Params = []int{1, 0}
			f.Values[0].Imm, f.Values[1].Imm = 1, 0
		}, api.OK},
		{"one Param twice", func(_ *api.SSA, f *api.SFunc) { f.Params = []int{0, 0} }, api.ErrSSAForm},
		{"a Const in Params", func(_ *api.SSA, f *api.SFunc) { f.Params = []int{0, 1, 2}; f.Values[2].Imm = 2 }, api.ErrSSAForm},
		{"a Param's Imm", func(_ *api.SSA, f *api.SFunc) { f.Values[1].Imm = 2 }, api.ErrSSAForm},
		{"a Param's Imm", func(_ *api.SSA, f *api.SFunc) { f.Values[0].Imm = -1 }, api.ErrSSAForm},
		{"a Param with an Arg", func(_ *api.SSA, f *api.SFunc) { f.Values[0].Args = []int{1} }, api.ErrSSAForm},
		{"a Param in a Body, too", func(_ *api.SSA, f *api.SFunc) { f.Blocks[0].Body = []int{0, 2} }, api.ErrSSAForm},
		{"a Param in a Body alone", func(_ *api.SSA, f *api.SFunc) { f.Params, f.Blocks[0].Body = []int{0}, []int{1, 2} }, api.ErrSSAForm},
		{"a Param in Phis", func(_ *api.SSA, f *api.SFunc) { f.Blocks[0].Phis = []int{1} }, api.ErrSSAForm},
		{"a Param that stands nowhere", func(_ *api.SSA, f *api.SFunc) { f.Params = []int{0} }, api.ErrSSATwice},
		{"the same, with a far Imm", func(_ *api.SSA, f *api.SFunc) { f.Params, f.Values[1].Imm = []int{0}, math.MinInt }, api.ErrSSATwice},
	})
}

// twoWays is a function main whose branch leads to block 1 on both its ways.
func twoWays() *api.SSA {
	return &api.SSA{Funcs: []api.SFunc{{Name: "main", Values: []api.Value{
		val(api.InsConst, truth, 0),
		val(api.InsConst, num, 1),
		val(api.InsPhi, num, 0, 1, 3),
		val(api.InsConst, num, 2),
		val(api.InsPhi, truth, 0, 0, 0),
	}, Blocks: []api.Block{
		{Body: []int{0, 1, 3}, Term: branch(0, 1, 1)},
		{Phis: []int{2, 4}, Preds: []int{0, 0}, Term: fall(2)},
	}}}}
}

func TestP904Preds(t *testing.T) {
	preds := func(b int, list ...int) func(*api.SSA, *api.SFunc) {
		return func(_ *api.SSA, f *api.SFunc) { f.Blocks[b].Preds = list }
	}
	wantTurned(t, "P904", loop, []turn{
		{"in another order", preds(1, 2, 0), api.ErrSSAPreds},
		{"one too few", preds(1, 0), api.ErrSSAPreds},
		{"one too few", preds(1, 2), api.ErrSSAPreds},
		{"none", preds(1), api.ErrSSAPreds},
		{"one twice", preds(1, 0, 0, 2), api.ErrSSAPreds},
		{"one twice, one not", preds(1, 0, 0), api.ErrSSAPreds},
		{"one too many", preds(1, 0, 1, 2), api.ErrSSAPreds},
		{"one too many", preds(3, 1, 2), api.ErrSSAPreds},
		{"one for another", preds(2, 0), api.ErrSSAPreds},
		{"block 0 with one", preds(0, 2), api.ErrSSAPreds},
		{"a way to block 0", func(_ *api.SSA, f *api.SFunc) {
			f.Blocks[2].Term, f.Blocks[0].Preds, f.Blocks[1].Preds = jump(0), []int{2}, []int{0}
			f.Values[1].Args = []int{0}
		}, api.ErrSSAPreds},
		{"a way to block 0 that Preds do not tell", func(_ *api.SSA, f *api.SFunc) {
			f.Blocks[2].Term, f.Blocks[1].Preds = jump(0), []int{0}
			f.Values[1].Args = []int{0}
		}, api.ErrSSAPreds},
		{"block 0 to itself", func(_ *api.SSA, f *api.SFunc) { f.Blocks[0].Term, f.Blocks[0].Preds = jump(0), []int{0} }, api.ErrSSAPreds},
	})
	wantTurned(t, "P904: both ways", twoWays, []turn{
		{"told once", func(_ *api.SSA, f *api.SFunc) { f.Blocks[1].Preds = []int{0} }, api.ErrSSAPreds},
		{"told three times", func(_ *api.SSA, f *api.SFunc) { f.Blocks[1].Preds = []int{0, 0, 0} }, api.ErrSSAPreds},
		{"told once, with Phis for it", func(_ *api.SSA, f *api.SFunc) {
			f.Blocks[1].Preds = []int{0}
			f.Values[2].Args, f.Values[4].Args = []int{1}, []int{0}
		}, api.ErrSSAPreds},
	})
}

func TestP905Reach(t *testing.T) {
	add := func(blocks ...api.Block) func(*api.SSA, *api.SFunc) {
		return func(_ *api.SSA, f *api.SFunc) { f.Blocks = append(f.Blocks, blocks...) }
	}
	wantTurned(t, "P905", loop, []turn{
		{"a return by itself", add(api.Block{Term: back(-1)}), api.ErrSSAReach},
		{"a panic by itself", add(api.Block{Term: fall(0)}), api.ErrSSAReach},
		{"a circle of two", add(api.Block{Preds: []int{5}, Term: jump(5)}, api.Block{Preds: []int{4}, Term: jump(4)}), api.ErrSSAReach},
		{"one that leads in", func(_ *api.SSA, f *api.SFunc) {
			f.Blocks = append(f.Blocks, api.Block{Term: jump(3)})
			f.Blocks[3].Preds = []int{1, 4}
		}, api.ErrSSAReach},
		{"one ahead of the others", func(_ *api.SSA, f *api.SFunc) {
			f.Blocks[0].Term, f.Blocks[1].Preds, f.Values[1].Args = jump(3), []int{2}, []int{6}
			f.Blocks[3].Preds = []int{0, 1}
		}, api.ErrSSAReach},
	})
}

func TestP906Phis(t *testing.T) {
	wantTurned(t, "P906", loop, []turn{
		{"no Args", func(_ *api.SSA, f *api.SFunc) { f.Values[1].Args = nil }, api.ErrSSAPhi},
		{"one Arg", func(_ *api.SSA, f *api.SFunc) { f.Values[1].Args = []int{6} }, api.ErrSSAPhi},
		{"three Args", func(_ *api.SSA, f *api.SFunc) { f.Values[1].Args = []int{0, 6, 6} }, api.ErrSSAPhi},
		{"a Const in Phis", func(_ *api.SSA, f *api.SFunc) { f.Blocks[1].Phis, f.Blocks[1].Body = []int{1, 2}, []int{3} }, api.ErrSSAPhi},
		{"an Add with two Args in Phis", func(_ *api.SSA, f *api.SFunc) { f.Blocks[1].Phis, f.Blocks[2].Body = []int{1, 6}, []int{4, 5} }, api.ErrSSAPhi},
		{"a Phi in Body, too", func(_ *api.SSA, f *api.SFunc) { f.Blocks[1].Body = []int{1, 2, 3} }, api.ErrSSAPhi},
		{"a Phi in another Body", func(_ *api.SSA, f *api.SFunc) { f.Blocks[1].Phis, f.Blocks[3].Body = nil, []int{1} }, api.ErrSSAPhi},
		{"a Phi in another block", func(_ *api.SSA, f *api.SFunc) { f.Blocks[1].Phis, f.Blocks[2].Phis = nil, []int{1} }, api.ErrSSAPhi},
		{"a Const in block 0's Phis", func(_ *api.SSA, f *api.SFunc) { f.Blocks[0] = api.Block{Phis: []int{0}, Term: jump(1)} }, api.ErrSSAPhi},
		{"a Phi with an Arg where one block leads", func(_ *api.SSA, f *api.SFunc) {
			f.Values = append(f.Values, val(api.InsPhi, num, 0, 1))
			f.Blocks[3].Phis = []int{7}
		}, api.OK},
		{"a Phi that stands nowhere", func(_ *api.SSA, f *api.SFunc) {
			f.Values = append(f.Values, val(api.InsPhi, num, 0))
		}, api.ErrSSATwice},
		{"a Phi's Imm", func(_ *api.SSA, f *api.SFunc) { f.Values[1].Imm = 1 }, api.ErrSSAForm},
	})
	wantTurned(t, "P906: both ways", twoWays, []turn{
		{"one Arg", func(_ *api.SSA, f *api.SFunc) { f.Values[2].Args = []int{1} }, api.ErrSSAPhi},
		{"three Args", func(_ *api.SSA, f *api.SFunc) { f.Values[4].Args = []int{0, 0, 0} }, api.ErrSSAPhi},
	})
}

func TestP907Twice(t *testing.T) {
	wantTurned(t, "P907", loop, []turn{
		{"twice in one Body", func(_ *api.SSA, f *api.SFunc) { f.Blocks[0].Body = []int{0, 0} }, api.ErrSSATwice},
		{"in two Bodies", func(_ *api.SSA, f *api.SFunc) { f.Blocks[3].Body = []int{0} }, api.ErrSSATwice},
		{"twice in Phis", func(_ *api.SSA, f *api.SFunc) { f.Blocks[1].Phis = []int{1, 1} }, api.ErrSSATwice},
		{"in no Body", func(_ *api.SSA, f *api.SFunc) { f.Blocks[2].Body = []int{5, 6} }, api.ErrSSATwice},
		{"in no Phis", func(_ *api.SSA, f *api.SFunc) { f.Blocks[1].Phis = nil }, api.ErrSSATwice},
		{"a value that nobody uses", func(_ *api.SSA, f *api.SFunc) { f.Values = append(f.Values, val(api.InsInput, num, 0)) }, api.ErrSSATwice},
		{"one in the place of another", func(_ *api.SSA, f *api.SFunc) { f.Blocks[2].Body = []int{4, 6, 6} }, api.ErrSSATwice},
	})
	s := loop()
	s.Funcs[0].Blocks[2].Phis = []int{1} // in the Phis of two blocks with as many Preds
	s.Funcs[0].Blocks[2].Preds = []int{1, 1}
	s.Funcs[0].Blocks[1].Term = branch(3, 2, 2)
	s.Funcs[0].Blocks = s.Funcs[0].Blocks[:3]
	want(t, "P907: in the Phis of two blocks", s, api.ErrSSATwice)
}

func TestP908Types(t *testing.T) {
	set := func(v int, x api.Value) func(*api.SSA, *api.SFunc) {
		return func(_ *api.SSA, f *api.SFunc) { f.Values[v] = x }
	}
	wantTurned(t, "P908", loop, []turn{
		{"a Phi without a Type", set(1, val(api.InsPhi, none, 0, 0, 6)), api.ErrSSAType},
		{"a Phi of another Type", set(1, val(api.InsPhi, truth, 0, 0, 6)), api.ErrSSAType},
		{"a Phi's first Arg", set(1, val(api.InsPhi, num, 0, 3, 6)), api.ErrSSAType},
		{"a Phi's last Arg", set(1, val(api.InsPhi, num, 0, 0, 3)), api.ErrSSAType},
		{"a Phi's Arg without a Type", set(1, val(api.InsPhi, num, 0, 0, 4)), api.ErrSSAType},
		{"a Phi and its Args without a Type", set(1, val(api.InsPhi, none, 0, 4, 4)), api.ErrSSAType},
		{"a branch of an int", func(_ *api.SSA, f *api.SFunc) { f.Blocks[1].Term.Value = 1 }, api.ErrSSAType},
		{"a branch of no type", func(_ *api.SSA, f *api.SFunc) { f.Blocks[1].Term.Value = 4 }, api.ErrSSAType},
		{"a panic of a bool", func(_ *api.SSA, f *api.SFunc) { f.Blocks[3].Term = fall(3) }, api.ErrSSAType},
		{"a panic of an int", func(_ *api.SSA, f *api.SFunc) { f.Blocks[3].Term = fall(1) }, api.OK},
	})
	for result := num; result <= list; result++ {
		for typ := num; typ <= list; typ++ {
			s := loop()
			s.Funcs = append(s.Funcs, called("f", result))
			s.Funcs[1].Values[0].Type = typ
			e := api.ErrSSAType
			if result == typ {
				e = api.OK
			}
			want(t, "P908: a return", s, e)
		}
	}
}

// diamond: 0 leads to 1 and 2, both lead to 3, which leads to 4 and 5; 4 leads back to 3. A Const in each, v0 to v5; v6 a Phi in 3; the others are for the branches.
func diamond() *api.SSA {
	f := api.SFunc{Name: "f", Params: []int{9}, Values: []api.Value{
		val(api.InsConst, num, 0), val(api.InsConst, num, 1), val(api.InsConst, num, 2),
		val(api.InsConst, num, 3), val(api.InsConst, num, 4), val(api.InsConst, num, 5),
		val(api.InsPhi, num, 0, 1, 2, 4),
		val(api.InsConst, truth, 0),
		val(api.InsNeg, num, 0, 0),
		val(api.InsParam, num, 0),
	}, Blocks: []api.Block{
		{Body: []int{7, 0}, Term: branch(7, 1, 2)},
		{Body: []int{1}, Preds: []int{0}, Term: jump(3)},
		{Body: []int{2}, Preds: []int{0}, Term: jump(3)},
		{Phis: []int{6}, Body: []int{3}, Preds: []int{1, 2, 4}, Term: branch(7, 4, 5)},
		{Body: []int{4}, Preds: []int{3}, Term: jump(3)},
		{Body: []int{5, 8}, Preds: []int{3}, Term: fall(5)},
	}}
	return &api.SSA{Funcs: []api.SFunc{f, called("main", none)}, Main: 1}
}

// TestP909Everywhere uses each of the diamond's values in each block's Body, at its end, and for each way of the Phi.
func TestP909Everywhere(t *testing.T) {
	over := map[int][]int{0: {0}, 1: {0, 1}, 2: {0, 2}, 3: {0, 3}, 4: {0, 3, 4}, 5: {0, 3, 5}} // who dominates
	stands := []int{0, 1, 2, 3, 4, 5, 3}
	is := func(good bool) api.Errno {
		if good {
			return api.OK
		}
		return api.ErrSSAUse
	}
	for b := range 6 {
		for v := range 10 {
			if v == 7 || v == 8 {
				continue
			}
			there := v == 9 || slices.Contains(over[b], stands[v])
			s := diamond()
			f := &s.Funcs[0]
			f.Values[8].Args[0] = v
			f.Blocks[5].Body = []int{5}
			f.Blocks[b].Body = append(f.Blocks[b].Body, 8)
			want(t, "P909: a use in a Body, behind", s, is(there))
			f.Blocks[b].Body = slices.Insert(f.Blocks[b].Body[:len(f.Blocks[b].Body)-1], 0, 8)
			want(t, "P909: a use in a Body, ahead", s, is(v == 9 || v == 6 && b == 3 || there && stands[v] != b))
			if b == 5 {
				s = diamond()
				s.Funcs[0].Blocks[5].Term.Value = v
				want(t, "P909: a use at a block's end", s, is(there))
			}
			if way := slices.Index([]int{1, 2, 4}, b); way >= 0 {
				s = diamond()
				s.Funcs[0].Values[6].Args[way] = v
				want(t, "P909: an Arg of a Phi", s, is(there))
			}
		}
	}
}

func TestP909Places(t *testing.T) {
	args := func(v int, list ...int) func(*api.SSA, *api.SFunc) {
		return func(_ *api.SSA, f *api.SFunc) { f.Values[v].Args = list }
	}
	wantTurned(t, "P909", loop, []turn{
		{"a Phi of itself", args(1, 0, 1), api.OK},
		{"a Phi of itself at its first way", args(1, 1, 6), api.ErrSSAUse},
		{"a Phi's Arg made in its own block, around the loop", args(1, 0, 2), api.OK},
		{"a Phi's Arg for the other way", args(1, 6, 0), api.ErrSSAUse},
		{"a value of itself", args(6, 6, 5), api.ErrSSAUse},
		{"a value of one behind it", func(_ *api.SSA, f *api.SFunc) { f.Blocks[2].Body = []int{4, 6, 5} }, api.ErrSSAUse},
		{"a value of one that is around the loop", args(3, 6, 2), api.ErrSSAUse},
		{"a value of one behind it in the head", func(_ *api.SSA, f *api.SFunc) { f.Blocks[1].Body = []int{3, 2} }, api.ErrSSAUse},
		{"a use behind the loop", func(_ *api.SSA, f *api.SFunc) { f.Blocks[3].Term = fall(2) }, api.OK},
		{"a use behind the loop of what is in it", func(_ *api.SSA, f *api.SFunc) { f.Blocks[3].Term = fall(6) }, api.ErrSSAUse},
		{"a Phi of a Phi behind the loop", func(_ *api.SSA, f *api.SFunc) {
			f.Values = append(f.Values, val(api.InsPhi, num, 0, 1))
			f.Blocks[3].Phis = []int{7}
		}, api.OK},
	})
	wantTurned(t, "P909: both ways", twoWays, []turn{
		{"an Arg that stands in the Phi's block", func(_ *api.SSA, f *api.SFunc) {
			f.Blocks[0].Body, f.Blocks[1].Body = []int{0, 1}, []int{3}
		}, api.ErrSSAUse},
		{"the first Arg, too", func(_ *api.SSA, f *api.SFunc) {
			f.Blocks[0].Body, f.Blocks[1].Body = []int{0, 3}, []int{1}
		}, api.ErrSSAUse},
		{"one Phi's Arg another Phi of the same block", func(_ *api.SSA, f *api.SFunc) {
			f.Values = append(f.Values, val(api.InsPhi, num, 0, 2, 2))
			f.Blocks[1].Phis = []int{5, 2, 4}
		}, api.ErrSSAUse},
		{"a branch's Value made behind it", func(_ *api.SSA, f *api.SFunc) {
			f.Blocks[0].Body, f.Blocks[1].Body = []int{1, 3}, []int{0}
			f.Blocks[1].Phis = []int{2}
			f.Values[4] = val(api.InsNot, truth, 0, 0)
			f.Blocks[1].Body = []int{0, 4}
		}, api.ErrSSAUse},
	})
}

// faults: one for each error, that leave each other as they are; in the chapter's order.
func faults() []turn {
	return []turn{
		{"form", func(_ *api.SSA, f *api.SFunc) { f.Values[5].Op = api.InsMove }, api.ErrSSAForm},
		{"preds", func(_ *api.SSA, f *api.SFunc) { f.Blocks[3].Preds = []int{2} }, api.ErrSSAPreds},
		{"reach", func(_ *api.SSA, f *api.SFunc) {
			at := len(f.Blocks)
			f.Blocks = append(f.Blocks, api.Block{Preds: []int{at}, Term: jump(at)})
		}, api.ErrSSAReach},
		{"phi", func(_ *api.SSA, f *api.SFunc) { f.Values[1].Args = []int{0} }, api.ErrSSAPhi},
		{"twice", func(_ *api.SSA, f *api.SFunc) { f.Values = append(f.Values, val(api.InsInput, num, 0)) }, api.ErrSSATwice},
		{"type", func(_ *api.SSA, f *api.SFunc) { f.Values[4].Op = api.InsPrintBool }, api.ErrSSAType},
		{"use", func(_ *api.SSA, f *api.SFunc) { f.Blocks[2].Body = []int{6, 4, 5} }, api.ErrSSAUse},
	}
}

func TestTwoFaults(t *testing.T) {
	for i, a := range faults() {
		for j, b := range faults() {
			s := loop()
			a.do(s, &s.Funcs[0])
			if j != i {
				b.do(s, &s.Funcs[0])
			}
			want(t, a.what+" and "+b.what+" in one function", s, min(a.want, b.want))

			s = loop()
			s.Funcs = append(s.Funcs, loop().Funcs[0])
			s.Funcs[1].Name = "f"
			a.do(s, &s.Funcs[0])
			b.do(s, &s.Funcs[1])
			first := a.want
			if b.want == api.ErrSSAForm {
				first = b.want
			}
			want(t, a.what+" and then "+b.what+" in two functions", s, first)
		}
	}
}

// chain is a line of n blocks in each of which the value of the one ahead is used, and the first one's.
func chain(n int) *api.SSA {
	f := api.SFunc{Name: "main", Values: []api.Value{val(api.InsConst, num, 1)}, Blocks: []api.Block{{Body: []int{0}, Term: jump(1)}}}
	for b := 1; b < n; b++ {
		f.Values = append(f.Values, val(api.InsAdd, num, 0, 0, b-1))
		f.Blocks = append(f.Blocks, api.Block{Body: []int{b}, Preds: []int{b - 1}, Term: jump(b + 1)})
	}
	f.Blocks[n-1].Term = fall(n - 1)
	return &api.SSA{Funcs: []api.SFunc{f}}
}

func TestLongChains(t *testing.T) {
	const n = 200000
	s := chain(n)
	f := &s.Funcs[0]
	want(t, "P909: a chain", s, api.OK)
	f.Values[1].Args[0] = n - 1
	want(t, "P909: a chain, with a use of its end", s, api.ErrSSAUse)
	f.Values[1].Args[0] = 0
	f.Values[n-1].Args[1] = n - 1
	want(t, "P909: a chain, its last one of itself", s, api.ErrSSAUse)
	f.Values[n-1].Args[1] = n - 2
	f.Blocks[n-1].Preds[0] = n - 3
	want(t, "P904: a chain, its last Preds", s, api.ErrSSAPreds)
	f.Blocks[n-1] = api.Block{Body: []int{n - 1}, Term: fall(n - 1)}
	f.Blocks[n-2].Term = fall(0)
	want(t, "P905: a chain, broken", s, api.ErrSSAReach)
}

// TestLongLadder: each block may go on, or to the last one, whose Phi has an Arg for each of them.
func TestLongLadder(t *testing.T) {
	const n = 100000
	f := api.SFunc{Name: "main", Values: []api.Value{val(api.InsConst, truth, 0), val(api.InsPhi, num, 0)}}
	last := api.Block{Phis: []int{1}, Term: fall(1)}
	for b := range n {
		f.Values = append(f.Values, val(api.InsInput, num, 0))
		f.Values[1].Args = append(f.Values[1].Args, b+2)
		block := api.Block{Body: []int{b + 2}, Preds: []int{b - 1}, Term: branch(0, b+1, n)}
		last.Preds = append(last.Preds, b)
		f.Blocks = append(f.Blocks, block)
	}
	f.Blocks[0].Body, f.Blocks[0].Preds = []int{0, 2}, nil
	last.Preds = append(last.Preds, n-1)
	f.Values[1].Args = append(f.Values[1].Args, 2)
	f.Blocks = append(f.Blocks, last)
	s := &api.SSA{Funcs: []api.SFunc{f}}
	want(t, "P909: a ladder", s, api.OK)
	f.Values[1].Args[n/2]++
	want(t, "P909: a ladder, with a value that is not there as yet", s, api.ErrSSAUse)
}

// spare gives each list room behind its end, and fills it.
func spare[T any](list []T, fill T) []T {
	room := append(slices.Clone(list), fill, fill, fill)
	return room[:len(list)]
}

func roomy(s *api.SSA) *api.SSA {
	s.Funcs = spare(s.Funcs, api.SFunc{Name: "spare"})
	for i := range s.Funcs {
		f := &s.Funcs[i]
		f.Params, f.Values, f.Blocks = spare(f.Params, -77), spare(f.Values, api.Value{Op: -77}), spare(f.Blocks, api.Block{Preds: []int{-77}})
		for v := range f.Values {
			f.Values[v].Args = spare(f.Values[v].Args, -77)
		}
		for b := range f.Blocks {
			x := &f.Blocks[b]
			x.Phis, x.Body, x.Preds, x.Term.To = spare(x.Phis, -77), spare(x.Body, -77), spare(x.Preds, -77), spare(x.Term.To, -77)
		}
	}
	return s
}

// whole shows all of a program, its lists up to the end of their room.
func whole(s *api.SSA) *api.SSA {
	c := &api.SSA{Funcs: full(s.Funcs), Main: s.Main}
	for i := range c.Funcs {
		f := &c.Funcs[i]
		f.Params, f.Values, f.Blocks = full(f.Params), full(f.Values), full(f.Blocks)
		for v := range f.Values {
			f.Values[v].Args = full(f.Values[v].Args)
		}
		for b := range f.Blocks {
			x := &f.Blocks[b]
			x.Phis, x.Body, x.Preds, x.Term.To = full(x.Phis), full(x.Body), full(x.Preds), full(x.Term.To)
		}
	}
	return c
}

func full[T any](list []T) []T { return slices.Clone(list[:cap(list)]) }

func TestP910NotChanged(t *testing.T) {
	programs := []*api.SSA{loop(), twoWays(), diamond()}
	for _, x := range faults() {
		s := loop()
		x.do(s, &s.Funcs[0])
		programs = append(programs, s)
	}
	for i, s := range programs {
		s = roomy(s)
		before := whole(s)
		first := ssa.Check(*s)
		if !reflect.DeepEqual(before, whole(s)) {
			t.Errorf("P910: Check has changed program %d", i)
		}
		if again := ssa.Check(*s); again != first {
			t.Errorf("P910: program %d: %v, then %v", i, first, again)
		}
	}
}

func TestP910NotKept(t *testing.T) {
	s := loop()
	want(t, "P910: at first", s, api.OK)
	s.Funcs[0].Blocks[2].Body[0], s.Funcs[0].Blocks[2].Body[2] = 6, 4
	want(t, "P910: the same lists with other numbers", s, api.ErrSSAUse)
	s.Funcs[0].Blocks[2].Body[0], s.Funcs[0].Blocks[2].Body[2] = 4, 6
	want(t, "P910: and as at first", s, api.OK)
}
