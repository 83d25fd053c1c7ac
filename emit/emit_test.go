package emit_test

import (
	"math"
	"slices"
	"strings"
	"testing"

	"quern/alir"
	"quern/api"
	"quern/emit"
	"quern/r16"
	"quern/sample"
)

func reg(n int) api.Loc { return api.Loc{Kind: api.LocReg, N: n} }

func slot(n int) api.Loc { return api.Loc{Kind: api.LocSlot, N: n} }

// emitted is what Emit answers of what is ALIR: code.
func emitted(t testing.TB, a api.ALIR) api.Code {
	t.Helper()
	c, e := emit.Emit(a)
	if e != api.OK {
		t.Fatalf("P2301: %v of\n%s", e, sample.TellALIR(a))
	}
	if e := r16.Check(c); e != api.OK {
		t.Fatalf("P2308: what is answered is no code: %v of\n%s\n%+v", e, sample.TellALIR(a), c)
	}
	return c
}

// hold holds what is answered of a program against the oracle.
func hold(t testing.TB, a api.ALIR) api.Code {
	t.Helper()
	c := emitted(t, a)
	if is, want := sample.TellCode(c), oracleCode(a); is != want || c.Main != a.Main {
		t.Fatalf("of\n%sis made\n%swant\n%s", sample.TellALIR(a), is, want)
	}
	return c
}

// whole is a program of ALIR, and its code.
type whole struct{ what, text, want string }

func holdWhole(t *testing.T, list []whole) {
	t.Helper()
	for _, x := range list {
		want := sample.Code(x.want)
		c := hold(t, sample.ALIR(x.text))
		if is := sample.TellCode(c); is != sample.TellCode(want) || c.Main != want.Main {
			t.Errorf("%s:\n%swant\n%s", x.what, is, sample.TellCode(want))
		}
	}
}

// sample23 is the program of chapter 19's examples.
const sample23 = `seven() int slots 0
	0: r0 const 7; return r0
	main() slots 1
	0: r0 input; r1 call seven save 0; print r0; print r1; s0 move r1; call seven; print r1; print s0; return`

func TestExamples(t *testing.T) {
	holdWhole(t, []whole{
		{"seven and main", sample23, `seven() frame 2
			0: ldi r0 7; ret
			main() frame 4
			2: inp r0; sts r0 2; call seven; mov r8 r0; lds r0 2; mov r1 r8; outi r0; outi r1
			10: sts r1 3; call seven; outi r1; lds r8 3; outi r8; ret`},
		{"InsAdd of a slot to a slot", "f() slots 2\n0: s0 add s1 r2; return\nmain()\n0: return",
			"f() frame 4\n0: lds r8 3; add r8 r8 r2; sts r8 2; ret\nmain() frame 2\n4: ret"},
		{"InsStore", "f() slots 2\n0: store r1 s0 s1; return\nmain()\n0: return",
			"f() frame 4\n0: lds r9 2; lds r10 3; stx r10 r1 r9; ret\nmain() frame 2\n4: ret"},
		{"moves", "f() int slots 2\n0: r0 move r0; s1 move s0; return r0\nmain()\n0: return",
			"f() frame 4\n0: lds r8 2; sts r8 3; ret\nmain() frame 2\n3: ret"},
		{"Args in a circle", "f() slots 2\n0: call g r1 r0 s0; return\ng(r0, r1, r2)\n0: return\nmain()\n0: return",
			"f() frame 4\n0: lds r2 2; mov r11 r1; mov r1 r0; mov r0 r11; call g; ret\ng(3) frame 2\n6: ret\nmain() frame 2\n7: ret"},
		{"a call that saves", "f() slots 2\n0: r3 call g save 2 3; return\ng() int\n0: return r0\nmain()\n0: return",
			"f() frame 6\n0: sts r2 2; sts r3 3; call g; mov r8 r0; lds r2 2; lds r3 3; mov r3 r8; ret\ng() frame 2\n8: ret\nmain() frame 2\n9: ret"},
	})
}

// turn is one thing turned in a function, which alir.Check refuses then.
type turn struct {
	what string
	turn func(f *api.AFunc)
}

func turns() []turn {
	put := func(x api.AIns) func(f *api.AFunc) {
		return func(f *api.AFunc) { f.Blocks[0].Body = append(f.Blocks[0].Body, x) }
	}
	end := func(to api.ATerm) func(f *api.AFunc) { return func(f *api.AFunc) { f.Blocks[1].Term = to } }
	one := []api.Loc{reg(0)}
	return []turn{
		{"a word for a name", func(f *api.AFunc) { f.Name = "for" }},
		{"no name", func(f *api.AFunc) { f.Name = "" }},
		{"another function's name", func(f *api.AFunc) { f.Name = "g" }},
		{"Slots below 0", func(f *api.AFunc) { f.Slots = -1 }},
		{"too few Slots", func(f *api.AFunc) { f.Slots = 0 }},
		{"too many Slots", func(f *api.AFunc) { f.Slots = api.MaxRegs + 1 }},
		{"very many Slots", func(f *api.AFunc) { f.Slots = math.MaxInt }},
		{"a Param twice", func(f *api.AFunc) { f.Params = []api.Loc{reg(1), reg(1)} }},
		{"a Param that is no place", func(f *api.AFunc) { f.Params = []api.Loc{reg(8)} }},
		{"a Param that is none", func(f *api.AFunc) { f.Params = []api.Loc{{}} }},
		{"no type", func(f *api.AFunc) { f.Result = 4 }},
		{"no block", func(f *api.AFunc) { f.Blocks = nil }},
		{"no instruction", put(api.AIns{})},
		{"a Phi", put(api.AIns{Op: api.InsPhi, Dst: reg(0), Args: one})},
		{"a Param as an instruction", put(api.AIns{Op: api.InsParam, Dst: reg(0)})},
		{"too few Args", put(api.AIns{Op: api.InsAdd, Dst: reg(0), Args: one})},
		{"too many Args", put(api.AIns{Op: api.InsPrintInt, Args: []api.Loc{reg(0), reg(0)}})},
		{"an Arg that is no place", put(api.AIns{Op: api.InsPrintInt, Args: []api.Loc{slot(9)}})},
		{"an Arg that is a number", put(api.AIns{Op: api.InsPrintInt, Args: []api.Loc{{Kind: api.LocNum, N: 1}}})},
		{"a place below 0", put(api.AIns{Op: api.InsPrintInt, Args: []api.Loc{reg(-1)}})},
		{"no Dst", put(api.AIns{Op: api.InsConst})},
		{"a Dst that is no place", put(api.AIns{Op: api.InsConst, Dst: reg(8)})},
		{"a Dst of a print", put(api.AIns{Op: api.InsPrintInt, Dst: reg(0), Args: one})},
		{"an Imm", put(api.AIns{Op: api.InsMove, Dst: reg(0), Args: one, Imm: 1})},
		{"a trap of PanicUser", put(api.AIns{Op: api.InsTrapZero, Args: one, Imm: api.PanicUser})},
		{"a call of nobody", put(api.AIns{Op: api.InsCall, Imm: 3})},
		{"a call of a number below 0", put(api.AIns{Op: api.InsCall, Imm: math.MinInt})},
		{"a call with too few Args", put(api.AIns{Op: api.InsCall, Imm: 1})},
		{"a call with a Dst and no result", put(api.AIns{Op: api.InsCall, Imm: 2, Dst: reg(0)})},
		{"Saves that fall", put(api.AIns{Op: api.InsCall, Imm: 2, Saves: []int{1, 0}})},
		{"Saves that stand twice", put(api.AIns{Op: api.InsCall, Imm: 2, Saves: []int{1, 1}})},
		{"a Save that is no register", put(api.AIns{Op: api.InsCall, Imm: 2, Saves: []int{8}})},
		{"a Save below 0", put(api.AIns{Op: api.InsCall, Imm: 2, Saves: []int{-1}})},
		{"Saves of a print", put(api.AIns{Op: api.InsPrintInt, Args: one, Saves: []int{0}})},
		{"no end", end(api.ATerm{})},
		{"a jump nowhere", end(api.ATerm{Kind: api.TermJump, To: []int{2}})},
		{"a jump to two", end(api.ATerm{Kind: api.TermJump, To: []int{1, 1}})},
		{"a jump with a Value", end(api.ATerm{Kind: api.TermJump, Value: reg(0), To: []int{1}})},
		{"a branch with one To", end(api.ATerm{Kind: api.TermBranch, Value: reg(0), To: []int{1}})},
		{"a branch on nothing", end(api.ATerm{Kind: api.TermBranch, To: []int{1, 1}})},
		{"a return of nothing", end(api.ATerm{Kind: api.TermReturn})},
		{"a return to a block", end(api.ATerm{Kind: api.TermReturn, Value: reg(0), To: []int{0}})},
		{"a panic of nothing", end(api.ATerm{Kind: api.TermPanic})},
	}
}

// turned is a program with functions of each sort, of which f is at hand.
func turned() api.ALIR {
	return sample.ALIR("f(r1, s0) int\n0: print s0; jump 1\n1: return r1\ng(r0)\n0: return\nmain()\n0: return")
}

// refused holds that a program is refused, with nothing else answered.
func refused(t *testing.T, what string, a api.ALIR) {
	t.Helper()
	if e := alir.Check(a); e != api.ErrALIRForm {
		t.Errorf("%s: alir.Check: %v", what, e)
	}
	if c, e := emit.Emit(a); e != api.ErrALIRForm || c.Ins != nil || c.Funcs != nil || c.Main != 0 {
		t.Errorf("P2301: %s: %v %+v", what, e, c)
	}
}

func TestP2301Errors(t *testing.T) {
	hold(t, turned())
	for _, x := range turns() {
		a := turned()
		x.turn(&a.Funcs[0])
		refused(t, x.what, a)
	}
	refused(t, "no function", api.ALIR{})
	for _, main := range []int{-1, 0, 1, 3, math.MinInt, math.MaxInt} {
		a := turned()
		a.Main = main
		refused(t, "no Main", a)
	}
	a := turned()
	a.Funcs[2].Result, a.Funcs[2].Blocks[0].Term.Value = api.TypeInt, reg(0)
	refused(t, "Main with a Result", a)
	a = turned() // the last function's last instruction
	a.Funcs[2].Blocks[0].Body = []api.AIns{{Op: api.InsInput, Dst: reg(0)}, {Op: api.InsPrintInt, Args: []api.Loc{slot(0)}}}
	refused(t, "an Arg of main's", a)
}

// TestP2301Functions: names, Params, Frame, First, Count and Main, in whatever order the functions stand.
func TestP2301Functions(t *testing.T) {
	pieces := []struct {
		text string
		want api.RFunc
	}{
		{"f(r0, r3, s1) int slots 7\n0: print r3; jump 1\n1: return s1\n", api.RFunc{Name: "f", Frame: 9, Count: 5, Params: 3}},
		{"g() ints\n0: panic s2\n", api.RFunc{Name: "g", Frame: 5, Count: 2}},
		{"h(r7, r6, r5, r4, r3, r2, r1, r0)\n0: call main save 0 7; jump 0\n", api.RFunc{Name: "h", Frame: 4, Count: 18, Params: 8}},
		{"main()\n0: return\n", api.RFunc{Name: "main", Frame: 2, Count: 1}},
	}
	for _, order := range [][]int{{0, 1, 2, 3}, {3, 2, 1, 0}, {2, 3, 0, 1}, {1, 3, 2, 0}, {3}, {1, 3}} {
		var text strings.Builder
		var want []api.RFunc
		first := 0
		for _, i := range order {
			text.WriteString(pieces[i].text)
			f := pieces[i].want
			f.First = first
			want = append(want, f)
			first += f.Count
		}
		c := hold(t, sample.ALIR(text.String()))
		if !slices.Equal(c.Funcs, want) || c.Main != slices.Index(order, 3) || len(c.Ins) != first {
			t.Errorf("P2301: %+v, Main %d, %d instructions; want %+v", c.Funcs, c.Main, len(c.Ins), want)
		}
	}
}
