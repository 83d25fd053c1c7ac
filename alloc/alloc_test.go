package alloc_test

import (
	"fmt"
	"math"
	"testing"

	"quern/alir"
	"quern/alloc"
	"quern/api"
	"quern/lir"
	"quern/live"
	"quern/sample"
)

// allocated is what Allocate answers of what is LIR: ALIR.
func allocated(t testing.TB, l api.LIR) api.ALIR {
	t.Helper()
	a, e := alloc.Allocate(l)
	if e != api.OK {
		t.Fatalf("Allocate: %v of\n%s", e, sample.TellLIR(l))
	}
	if e := alir.Check(a); e != api.OK {
		t.Fatalf("P2003: what is answered is no ALIR: %v of\n%+v", e, a)
	}
	return a
}

// row is a program of LIR, and its ALIR.
type row struct{ what, text, want string }

// holdRows holds what is answered of programs against the texts, against the oracle, and their runs at every number of steps.
func holdRows(t *testing.T, rows []row) {
	t.Helper()
	for _, r := range rows {
		l, want := sample.LIR(r.text), sample.ALIR(r.want)
		a := allocated(t, l)
		if is := sample.TellALIR(a); is != sample.TellALIR(want) || a.Main != want.Main {
			t.Errorf("%s:\n%swant\n%s", r.what, is, sample.TellALIR(want))
		}
		hold(t, l)
		for _, input := range [][]int{nil, {0}, {1}, {3, 0, 2, 1, 0, -1, 1, 0}} {
			holdRuns(t, l, a, input, 120)
		}
	}
}

// inMain are rows whose texts are main's blocks.
func inMain(rows []row) []row {
	for i := range rows {
		rows[i].text, rows[i].want = "main()\n"+rows[i].text, "main()\n"+rows[i].want
	}
	return rows
}

// second is the program f of chapter 14's examples.
const second = `twice(r0) int regs 2
	0: r1 add r0 r0; return r1
	main() regs 2
	0: r0 input; r1 call twice r0; print r1; r0 const 2; r1 alloc r0; return`

func TestExamples(t *testing.T) {
	l := sample.LIR(second)
	for i, want := range []string{"[{0 0 2} {1 3 4}]", "[{0 3 10} {1 5 11}]"} {
		if list, e := live.Intervals(l.Funcs[i], []int{0}); e != api.OK || fmt.Sprint(list) != want {
			t.Errorf("the intervals of %s: %v, want %s", l.Funcs[i].Name, list, want)
		}
	}
	holdRows(t, []row{{"twice and main", second, `twice(r0) int slots 0
		0: r0 add r0 r0; return r0
		main() slots 0
		0: r0 input; r1 call twice r0; print r1; r0 const 2; r1 alloc r0; return`}})
	a := allocated(t, l)
	if f := a.Funcs[0]; a.Main != 1 || f.Params[0] != (api.Loc{Kind: api.LocReg}) || f.Slots != 0 || f.Result != api.TypeInt {
		t.Errorf("twice: %+v, Main %d", f, a.Main)
	}
	if x := a.Funcs[1].Blocks[0].Body[1]; len(x.Saves) > 0 || x.Imm != 0 || x.Op != api.InsCall {
		t.Errorf("main's call: %+v", x)
	}
}

// refused holds that a program is refused, with nothing else answered.
func refused(t *testing.T, what string, l api.LIR, why api.Errno) {
	t.Helper()
	if is := lir.Check(l); is != why {
		t.Errorf("%s: lir.Check: %v, want %v", what, is, why)
	}
	if a, e := alloc.Allocate(l); e != why || a.Funcs != nil || a.Main != 0 {
		t.Errorf("P2001: %s: %v %+v, want %v", what, e, a, why)
	}
}

// wrong is a turn that makes of a function one that lir.Check refuses.
type wrong struct {
	what string
	turn func(f *api.LFunc)
	why  api.Errno
}

func wrongs() []wrong {
	put := func(x api.LIns) func(f *api.LFunc) {
		return func(f *api.LFunc) { f.Blocks[1].Body = append(f.Blocks[1].Body, x) }
	}
	end := func(to api.Term) func(f *api.LFunc) { return func(f *api.LFunc) { f.Blocks[1].Term = to } }
	return []wrong{
		{"a word for a name", func(f *api.LFunc) { f.Name = "for" }, api.ErrLIRForm},
		{"no name", func(f *api.LFunc) { f.Name = "" }, api.ErrLIRForm},
		{"Regs below 0", func(f *api.LFunc) { f.Regs = -1 }, api.ErrLIRForm},
		{"too few Regs", func(f *api.LFunc) { f.Regs = 0 }, api.ErrLIRForm},
		{"too many Regs", func(f *api.LFunc) { f.Regs = api.MaxRegs + 1 }, api.ErrLIRForm},
		{"a Param twice", func(f *api.LFunc) { f.Params = []int{0, 0} }, api.ErrLIRForm},
		{"a Param that is none", func(f *api.LFunc) { f.Params = []int{-1} }, api.ErrLIRForm},
		{"nine Params", func(f *api.LFunc) { f.Regs, f.Params = 9, []int{0, 1, 2, 3, 4, 5, 6, 7, 8} }, api.ErrLIRForm},
		{"no type", func(f *api.LFunc) { f.Result = 4 }, api.ErrLIRForm},
		{"no block", func(f *api.LFunc) { f.Blocks = nil }, api.ErrLIRForm},
		{"no instruction", put(api.LIns{}), api.ErrLIRForm},
		{"a Phi", put(api.LIns{Op: api.InsPhi, Dst: 0}), api.ErrLIRForm},
		{"a Param as an instruction", put(api.LIns{Op: api.InsParam, Dst: 0}), api.ErrLIRForm},
		{"too few Args", put(api.LIns{Op: api.InsAdd, Dst: 0, Args: []int{0}}), api.ErrLIRForm},
		{"an Arg that is none", put(api.LIns{Op: api.InsNeg, Dst: 0, Args: []int{2}}), api.ErrLIRForm},
		{"a Dst that is none", put(api.LIns{Op: api.InsNeg, Dst: -1, Args: []int{0}}), api.ErrLIRForm},
		{"a Dst of a print", put(api.LIns{Op: api.InsPrintInt, Dst: 0, Args: []int{0}}), api.ErrLIRForm},
		{"an Imm", put(api.LIns{Op: api.InsMove, Dst: 0, Args: []int{0}, Imm: 1}), api.ErrLIRForm},
		{"a trap of PanicUser", put(api.LIns{Op: api.InsTrapZero, Dst: -1, Args: []int{0}, Imm: api.PanicUser}), api.ErrLIRForm},
		{"a call of nobody", put(api.LIns{Op: api.InsCall, Dst: -1, Imm: 3}), api.ErrLIRForm},
		{"a call of a number below 0", put(api.LIns{Op: api.InsCall, Dst: -1, Imm: math.MinInt}), api.ErrLIRForm},
		{"a call with too many Args", put(api.LIns{Op: api.InsCall, Dst: -1, Imm: 2, Args: []int{0}}), api.ErrLIRForm},
		{"a call with a Dst and no result", put(api.LIns{Op: api.InsCall, Dst: 0, Imm: 2}), api.ErrLIRForm},
		{"no end", end(api.Term{}), api.ErrLIRForm},
		{"a jump nowhere", end(api.Term{Kind: api.TermJump, Value: -1, To: []int{2}}), api.ErrLIRForm},
		{"a branch with one To", end(api.Term{Kind: api.TermBranch, To: []int{1}}), api.ErrLIRForm},
		{"a return of a value", end(api.Term{Kind: api.TermReturn, Value: 0}), api.ErrLIRForm},
		{"a panic of nothing", end(api.Term{Kind: api.TermPanic, Value: -1}), api.ErrLIRForm},
		{"a further block", func(f *api.LFunc) { f.Blocks = append(f.Blocks, api.LBlock{Term: back(-1)}) }, api.ErrLIRReach},
		{"one that leads to itself", func(f *api.LFunc) { f.Blocks = append(f.Blocks, api.LBlock{Term: jump(2)}) }, api.ErrLIRReach},
		{"one that is led to no more", func(f *api.LFunc) { f.Blocks[0].Term = jump(0) }, api.ErrLIRReach},
		{"never set", put(api.LIns{Op: api.InsPrintInt, Dst: -1, Args: []int{1}}), api.ErrLIRUnset},
		{"set by what reads it", put(api.LIns{Op: api.InsMove, Dst: 1, Args: []int{1}}), api.ErrLIRUnset},
		{"not set on the other way", func(f *api.LFunc) {
			f.Blocks[0].Term = branch(0, 1, 2)
			f.Blocks[1] = api.LBlock{Body: []api.LIns{{Op: api.InsConst, Dst: 1}}, Term: jump(2)}
			f.Blocks = append(f.Blocks, api.LBlock{Term: api.Term{Kind: api.TermPanic, Value: 1}})
		}, api.ErrLIRUnset},
		{"nothing is set", func(f *api.LFunc) { f.Blocks[0].Body = nil }, api.ErrLIRUnset},
	}
}

// three is three functions alike, of which the last one is main.
func three() api.LIR {
	const body = "() regs 2\n0: r0 const 1; jump 1\n1: print r0; return\n"
	return sample.LIR("a" + body + "b" + body + "main" + body)
}

// TestP2001Errors puts each error into each of three functions, and each other one into each other: that which is named first is told.
func TestP2001Errors(t *testing.T) {
	list := wrongs()
	for _, x := range list {
		for at := range 3 {
			l := three()
			x.turn(&l.Funcs[at])
			refused(t, x.what, l, x.why)
			for _, y := range list {
				m := three()
				x.turn(&m.Funcs[at])
				y.turn(&m.Funcs[(at+1)%3])
				refused(t, x.what+", then "+y.what, m, min(x.why, y.why))
			}
		}
	}
	refused(t, "no function", api.LIR{}, api.ErrLIRForm)
	for _, main := range []int{-1, 3, math.MinInt, math.MaxInt} {
		l := three()
		l.Main = main
		refused(t, "no such Main", l, api.ErrLIRForm)
	}
	l := sample.LIR(second)
	l.Main = 0
	refused(t, "Main with a Param", l, api.ErrLIRForm)
	l = sample.LIR("f() int\n0: r0 const 1; return r0\nmain()\n0: return")
	l.Main = 0
	refused(t, "Main with a Result", l, api.ErrLIRForm)
	l = three()
	l.Funcs[1].Name = "a"
	refused(t, "two functions of one name", l, api.ErrLIRForm)
}

func back(value int) api.Term { return api.Term{Kind: api.TermReturn, Value: value} }

func jump(to int) api.Term { return api.Term{Kind: api.TermJump, Value: -1, To: []int{to}} }

func branch(value, yes, no int) api.Term {
	return api.Term{Kind: api.TermBranch, Value: value, To: []int{yes, no}}
}
