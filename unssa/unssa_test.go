package unssa_test

import (
	"strings"
	"testing"

	"quern/api"
	"quern/lir"
	"quern/sample"
	"quern/unssa"
)

// lowered is what Lower answers of what is SSA: LIR.
func lowered(t testing.TB, s api.SSA) api.LIR {
	t.Helper()
	l, e := unssa.Lower(s)
	if e != api.OK {
		t.Fatalf("Lower: %v of\n%s", e, sample.Tell(s))
	}
	if e := lir.Check(l); e != api.OK {
		t.Fatalf("P1506: what is answered is no LIR: %v of\n%+v", e, l)
	}
	return l
}

// row is a program of SSA, its values by the numbers of their names or by their places, and its LIR.
type row struct{ what, text, want string }

func holdRows(t *testing.T, rows []row) {
	t.Helper()
	for _, r := range rows {
		l, want := lowered(t, sample.SSA(r.text)), sample.LIR(r.want)
		if is := sample.TellLIR(l); is != sample.TellLIR(want) || l.Main != want.Main {
			t.Errorf("%s:\n%swant\n%s", r.what, is, sample.TellLIR(want))
		}
	}
}

// inMain are rows whose texts are main's blocks; ahead of those of LIR stands Regs.
func inMain(rows []row) []row {
	for i := range rows {
		rows[i].text, rows[i].want = "main()\n"+rows[i].text, "main() regs "+rows[i].want
	}
	return rows
}

func TestExamples(t *testing.T) {
	holdRows(t, []row{{"the loop", sample.Loop, `main() regs 7
		0: r0 const 0; r1 move r0; jump 1
		1: r2 const 3; r3 lt r1 r2; branch r3 2 3
		2: print r1; r5 const 1; r6 add r1 r5; r1 move r6; jump 1
		3: return`}})
	holdRows(t, inMain([]row{
		{"a way past a block", `0: v0 input; v1 const 0; v2 eq v0 v1; branch v2 1 2
			1: jump 2
			2: v3 phi.int v0 v1; v4 print v3; return`, `5
			0: r0 input; r1 const 0; r2 eq r0 r1; branch r2 1 3
			1: r3 move r1; jump 2
			2: print r3; return
			3: r3 move r0; jump 2`},
		{"two Phis that change places", `0: v0 const 1; v1 const 2; jump 1
			1: v2 phi.int v0 v3; v3 phi.int v1 v2; jump 1`, `5
			0: r0 const 1; r1 const 2; r2 move r0; r3 move r1; jump 1
			1: r4 move r3; r3 move r2; r2 move r4; jump 1`},
		{"both ways to one block", `0: v0 const true; v1 const false; branch v0 1 1
			1: v2 phi.bool v0 v1; return`, `3
			0: r0 const 1; r1 const 0; branch r0 2 3
			1: return
			2: r2 move r0; jump 1
			3: r2 move r1; jump 1`},
	}))
}

func TestP1501Errors(t *testing.T) {
	refused := func(what string, s api.SSA, why api.Errno) {
		t.Helper()
		if l, e := unssa.Lower(s); e != why || l.Funcs != nil || l.Main != 0 {
			t.Errorf("%s: %v %+v, want %v", what, e, l, why)
		}
	}
	good := sample.SSA("f(a int) int\n0: return a\nmain()\n0: return").Funcs
	for _, x := range sample.Wrongs() {
		refused("alone", x.Program, x.Why)
		wrong := x.Program.Funcs[0]
		if wrong.Name == "main" {
			wrong.Name = "wrong"
		}
		refused("behind others", api.SSA{Funcs: []api.SFunc{good[0], good[1], wrong}, Main: 1}, x.Why)
		refused("ahead of others", api.SSA{Funcs: []api.SFunc{wrong, good[0], good[1]}, Main: 2}, x.Why)
	}
	refused("no function", api.SSA{}, api.ErrSSAForm)
	refused("no such Main", api.SSA{Funcs: good, Main: 2}, api.ErrSSAForm)
	refused("Main below 0", api.SSA{Funcs: good, Main: -1}, api.ErrSSAForm)
	refused("Main with a parameter", api.SSA{Funcs: good}, api.ErrSSAForm)
	refused("a Move", api.SSA{Funcs: []api.SFunc{{Name: "main",
		Values: []api.Value{{Op: api.InsConst, Type: api.TypeInt}, {Op: api.InsMove, Type: api.TypeInt, Args: []int{0}}},
		Blocks: []api.Block{{Body: []int{0, 1}, Term: back(-1)}}}}}, api.ErrSSAForm)
}

// TestP1501Functions: their order, Main, names, results and parameters.
func TestP1501Functions(t *testing.T) {
	functions := []string{
		"f(v1 int, v0 bool) int\n0: v3 const 1; v2 add v1 v3; branch v0 1 2\n1: return v2\n2: return v1\n",
		"g(v2 ints, v0 int, v3 bool) bool\n0: v1 len v2; v4 eq v0 v1; return v4\n",
		"h(v7 int, v6 int, v5 int, v4 int, v3 int, v2 int, v1 int, v0 int) ints\n0: v8 alloc v4; return v8\n",
		"k()\n0: v0 const 4; panic v0\n",
	}
	lower := []string{
		"f(r1, r0) int regs 4\n0: r3 const 1; r2 add r1 r3; branch r0 1 2\n1: return r2\n2: return r1\n",
		"g(r2, r0, r3) bool regs 5\n0: r1 len r2; r4 eq r0 r1; return r4\n",
		"h(r7, r6, r5, r4, r3, r2, r1, r0) ints regs 9\n0: r8 alloc r4; return r8\n",
		"k() regs 1\n0: r0 const 4; panic r0\n",
	}
	const main = "main()\n0: v0 const 7; v1 const true; v2 call f v0 v1; v3 const nil; v4 call g v3 v2 v1; v5 call k; return\n"
	const lowerMain = "main() regs 6\n0: r0 const 7; r1 const 1; r2 call f r0 r1; r3 const 0; r4 call g r3 r2 r1; call k; return\n"
	for at := range len(functions) + 1 {
		place := func(list []string, one string) string {
			return strings.Join(list[:at], "") + one + strings.Join(list[at:], "")
		}
		holdRows(t, []row{{"main at another place", place(functions, main), place(lower, lowerMain)}})
		if l := lowered(t, sample.SSA(place(functions, main))); l.Main != at {
			t.Errorf("P1501: Main: %d, want %d", l.Main, at)
		}
	}
	holdRows(t, []row{
		{"of no value", "main()\n0: return", "main() regs 0\n0: return"},
		{"parameters that nobody reads", "f(a int, b bool)\n0: return\nmain()\n0: return", "f(r0, r1) regs 2\n0: return\nmain() regs 0\n0: return"},
		{"a parameter that is returned", "f(a ints) ints\n0: return a\nmain()\n0: return", "f(r0) ints regs 1\n0: return r0\nmain() regs 0\n0: return"},
		{"calls of itself and of main", "f(a int) int\n0: b call f a; call main; return b\nmain()\n0: call main; return",
			"f(r0) int regs 3\n0: r1 call f r0; call main; return r1\nmain() regs 1\n0: call main; return"},
	})
}

// TestP1503: each operation, with and without a Type, in the order of the Body.
func TestP1503(t *testing.T) {
	holdRows(t, []row{{"all operations", `f(v0 int, v1 bool, v2 ints) int
			0: v3 const -9223372036854775808; v4 const true; v5 const false; v6 const nil; v7 add v0 v3; v8 sub v0 v3; v9 mul v0 v3; v10 div v0 v3; v11 rem v0 v3; v12 and v0 v3; v13 or v0 v3; v14 xor v0 v3; v15 bic v0 v3; v16 shl v0 v3; v17 shr v0 v3; v18 eq v1 v4; v19 ne v2 v6; v20 lt v0 v3; v21 le v3 v0; v22 neg v0; v23 inv v3; v24 not v1; v25 len v2; v26 load v2 v0; v27 store v2 v0 v3; v28 alloc v0; v29 input; v30 call f v3 v4 v6; v31 call main; v32 print v0; v33 printbool v1; v34 trapzero 1 v0; v35 trapneg 5 v3; v36 trapbound 2 v0 v3; return v0
			main()
			0: return`, `f(r0, r1, r2) int regs 37
			0: r3 const -9223372036854775808; r4 const 1; r5 const 0; r6 const 0; r7 add r0 r3; r8 sub r0 r3; r9 mul r0 r3; r10 div r0 r3; r11 rem r0 r3; r12 and r0 r3; r13 or r0 r3; r14 xor r0 r3; r15 bic r0 r3; r16 shl r0 r3; r17 shr r0 r3; r18 eq r1 r4; r19 ne r2 r6; r20 lt r0 r3; r21 le r3 r0; r22 neg r0; r23 inv r3; r24 not r1; r25 len r2; r26 load r2 r0; store r2 r0 r3; r28 alloc r0; r29 input; r30 call f r3 r4 r6; call main; print r0; printbool r1; trapzero 1 r0; trapneg 5 r3; trapbound 2 r0 r3; return r0
			main() regs 0
			0: return`}})
	holdRows(t, inMain([]row{
		{"by other numbers", "0: v5 const 1; v0 print v5; v3 neg v5; v1 print v3; v4 add v3 v5; v2 print v4; panic v3",
			"6\n0: r5 const 1; print r5; r3 neg r5; print r3; r4 add r3 r5; print r4; panic r3"},
		{"values that nobody reads stay", "0: a const 1; b const 2; c add a a; d eq a a; return", "4\n0: r0 const 1; r1 const 2; r2 add r0 r0; r3 eq r0 r0; return"},
		{"in several blocks", "0: v3 const 1; jump 2\n1: v0 print v2; return\n2: v1 neg v3; v2 inv v1; jump 1",
			"4\n0: r3 const 1; jump 2\n1: print r2; return\n2: r1 neg r3; r2 inv r1; jump 1"},
		{"Phis are none", "0: v0 const 1; jump 1\n1: v1 phi.int v0; v2 phi.int v0; v3 neg v1; panic v2",
			"4\n0: r0 const 1; r1 move r0; r2 move r0; jump 1\n1: r3 neg r1; panic r2"},
	}))
}

func back(value int) api.Term { return api.Term{Kind: api.TermReturn, Value: value} }

func jump(to int) api.Term { return api.Term{Kind: api.TermJump, Value: -1, To: []int{to}} }

func branch(value, yes, no int) api.Term {
	return api.Term{Kind: api.TermBranch, Value: value, To: []int{yes, no}}
}
