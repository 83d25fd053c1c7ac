package sample_test

import (
	"strings"
	"testing"

	"quern/api"
	"quern/lex"
	"quern/lir"
	"quern/parse"
	"quern/sample"
	"quern/ssa"
	"quern/types"
)

const all = `f(v0 int, v1 bool, v2 ints) bool
0: v3 const -3; v4 const true; v5 const nil; v6 input; branch v1 1 2
1: v7 add v0 v3; v8 call f v7 v4 v5; jump 2
2: v9 phi.int v0 v7; v10 phi.bool v1 v8; v11 phi.ints v2 v5; v12 print v9; v13 trapbound 2 v9 v3; v14 store v11 v9 v9; branch v10 3 4
3: return v10
4: panic v9
main()
0: v0 call g; return
g()
0: return
`

func TestReadAndTell(t *testing.T) {
	s := sample.SSA(all)
	if e := ssa.Check(s); e != api.OK || s.Main != 1 || sample.Tell(s) != all {
		t.Errorf("%v, main %d:\n%s", e, s.Main, sample.Tell(s))
	}
	for _, x := range []struct{ what, text, want string }{
		{"by places", "main()\n0: a const 1; print a; b neg a; panic b", "main()\n0: v0 const 1; v1 print v0; v2 neg v0; panic v2\n"},
		{"by numbers", "main()\n0: v1 const 1; v0 print v1; return", "main()\n0: v1 const 1; v0 print v1; return\n"},
		{"of parameters, too", "f(v1 int) int\n0: v0 neg v1; return v0\nmain()\n0: return", "f(v1 int) int\n0: v0 neg v1; return v0\nmain()\n0: return\n"},
	} {
		s := sample.SSA(x.text)
		if e := ssa.Check(s); e != api.OK || sample.Tell(s) != x.want {
			t.Errorf("%s: %v:\n%s", x.what, e, sample.Tell(s))
		}
	}
	for _, text := range []string{"main()\n0: a nothing b; return", "main()\n0: print b; return", "main()\n0: a const x; return", "main()\n0: leave", "main() text\n0: return"} {
		func() {
			defer func() {
				if recover() == nil {
					t.Errorf("%s is read", text)
				}
			}()
			sample.SSA(text)
		}()
	}
}

func TestDrawn(t *testing.T) {
	d := sample.Dice(1)
	for range 1000 {
		s := sample.DrawSSA(&d)
		told := sample.Tell(s)
		if e := ssa.Check(s); e != api.OK || sample.Tell(sample.Spaced(s)) != told {
			t.Fatalf("%v:\n%s", e, told)
		}
		if e := ssa.Check(sample.Mixed(&d, s)); e != api.OK || sample.Tell(s) != told {
			t.Fatalf("mixed: %v:\n%s", e, told)
		}
	}
	for i := range 300 {
		text := sample.DrawText(&d, d.Below(40), i%2 == 0)
		tokens, _, e := lex.Tokens([]byte(text))
		tree, _, _, no := parse.Parse(tokens, len(text))
		if _, at, why := types.Types(tree); e != api.OK || no != api.OK || why != api.OK {
			t.Fatalf("%v, %v, %v at %d: %s", e, no, why, at, text)
		}
	}
}

func TestBuilt(t *testing.T) {
	if is, want := sample.Tell(sample.Built("func main() { print(3); }")), "main()\n0: v0 const 3; v1 print v0; return\n"; is != want {
		t.Errorf("%s, want %s", is, want)
	}
	for _, text := range []string{"$", "func", "", "func main() { var x int = true; }", "func main() {} func f(a int, b int, c int, d int, e int, f int, g int, h int, i int) {}"} {
		func() {
			defer func() {
				if recover() == nil {
					t.Errorf("%s is built", text)
				}
			}()
			sample.Built(text)
		}()
	}
}

func TestWrongs(t *testing.T) {
	var met []api.Errno
	for _, x := range sample.Wrongs() {
		if e := ssa.Check(x.Program); e != x.Why {
			t.Errorf("%v, want %v", e, x.Why)
		}
		met = append(met, x.Why)
	}
	if len(met) != int(api.ErrSSAUse-api.ErrSSAForm)+1 {
		t.Errorf("not all errors: %v", met)
	}
}

// TestMemory: what the tests of other packages lean on is told, in lists and in their spare room.
func TestMemory(t *testing.T) {
	s := sample.Spaced(sample.SSA(all))
	before := sample.Shape(s)
	for i, list := range sample.Lists(s) {
		list[:cap(list)][cap(list)-1]++
		if sample.Shape(s) == before {
			t.Errorf("the list %d: what was written into its spare room is not told", i)
		}
		list[:cap(list)][cap(list)-1]--
	}
	if sample.Shape(s) != before || !strings.Contains(before, "spare") {
		t.Error("two shapes of one program")
	}
	if !sample.Parted(sample.Spaced(s)) {
		t.Error("parted lists are told to share memory")
	}
	shared := sample.Spaced(s)
	b := shared.Funcs[0].Blocks
	b[1].Preds = b[2].Preds[:0]
	if sample.Parted(shared) {
		t.Error("lists that share memory are not told")
	}
	sample.Spoil(s)
	if s.Funcs[0].Values != nil || s.Funcs[:cap(s.Funcs)][len(s.Funcs)].Name != "" {
		t.Error("not all is spoilt")
	}
}

const allLIR = `f(r3, r1) bool regs 9
0: r0 const -3; r2 input; r8 move r2; branch r1 1 2
1: r4 add r0 r3; r5 call f r4 r1; call f r4 r5; jump 2
2: print r3; printbool r1; trapbound 2 r3 r0; trapzero 5 r0; store r3 r3 r0; branch r1 3 4
3: return r1
4: panic r0
main() regs 0
0: call g; return
g() regs 1
0: r0 alloc r0; return
`

func TestReadAndTellLIR(t *testing.T) {
	l := sample.LIR(allLIR)
	if l.Main != 1 || l.Funcs[0].Regs != 9 || len(l.Funcs[0].Params) != 2 || sample.TellLIR(l) != allLIR {
		t.Errorf("main %d:\n%s", l.Main, sample.TellLIR(l))
	}
	if is, want := sample.TellLIR(sample.LIR("main()\n0: r1 const 1; r0 neg r1; panic r7")), "main() regs 8\n0: r1 const 1; r0 neg r1; panic r7\n"; is != want {
		t.Errorf("%s, want %s", is, want)
	}
	for _, text := range []string{"main()\n0: r1 nothing r0; return", "main()\n0: print b; return", "main()\n0: a const 1; return", "main()\n0: r1 const x; return", "main()\n0: leave", "main()\n0: call g; return", "main() text\n0: return"} {
		func() {
			defer func() {
				if recover() == nil {
					t.Errorf("%s is read", text)
				}
			}()
			sample.LIR(text)
		}()
	}
}

func TestDrawnLIR(t *testing.T) {
	d := sample.Dice(1)
	for range 1000 {
		l := sample.DrawLIR(&d)
		told := sample.TellLIR(l)
		again := sample.LIR(told)
		again.Main = l.Main
		if e := lir.Check(l); e != api.OK || sample.TellLIR(sample.SpacedLIR(l)) != told || sample.ShapeLIR(sample.SpacedLIR(again)) != sample.ShapeLIR(sample.SpacedLIR(l)) {
			t.Fatalf("%v:\n%s", e, told)
		}
	}
}

func TestMemoryLIR(t *testing.T) {
	l := sample.SpacedLIR(sample.LIR(allLIR))
	before := sample.ShapeLIR(l)
	for i, list := range sample.LIRLists(l) {
		if cap(list) == 0 { // of what stands in spare room
			continue
		}
		list[:cap(list)][cap(list)-1]++
		if sample.ShapeLIR(l) == before {
			t.Errorf("the list %d: what was written into its spare room is not told", i)
		}
		list[:cap(list)][cap(list)-1]--
	}
	body := l.Funcs[0].Blocks[0].Body
	body[:cap(body)][len(body)].Imm++
	if sample.ShapeLIR(l) == before {
		t.Error("what was written into a Body's spare room is not told")
	}
	body[:cap(body)][len(body)].Imm--
	if sample.ShapeLIR(l) != before || !strings.Contains(before, "spare") {
		t.Error("two shapes of one program")
	}
	if !sample.PartedLIR(sample.SpacedLIR(l)) {
		t.Error("parted lists are told to share memory")
	}
	for what, share := range map[string]func(f []api.LFunc){
		"numbers":            func(f []api.LFunc) { f[0].Blocks[1].Body[0].Args = f[0].Params[1:] },
		"numbers' room":      func(f []api.LFunc) { f[0].Blocks[1].Body[0].Args = f[0].Params[2:] },
		"instructions":       func(f []api.LFunc) { f[0].Blocks[1].Body = f[0].Blocks[0].Body[2:] },
		"instructions' room": func(f []api.LFunc) { f[0].Blocks[3].Body = f[0].Blocks[0].Body[3:] },
		"blocks":             func(f []api.LFunc) { f[1].Blocks = f[0].Blocks[2:] },
		"blocks' room":       func(f []api.LFunc) { f[1].Blocks = f[0].Blocks[5:] },
	} {
		shared := sample.SpacedLIR(l)
		share(shared.Funcs)
		if sample.PartedLIR(shared) {
			t.Errorf("lists of %s that share memory are not told", what)
		}
	}
	block := l.Funcs[0].Blocks[0]
	sample.SpoilLIR(l)
	if l.Funcs[0].Blocks != nil || l.Funcs[:cap(l.Funcs)][len(l.Funcs)].Name != "" || block.Term.To[0] != -77 || block.Body[0].Op != -1 {
		t.Error("not all is spoilt")
	}
}

func TestApartLists(t *testing.T) {
	list := []int{1, 2, 3, 4}
	for _, x := range []struct {
		lists [][]int
		want  bool
	}{
		{nil, true},
		{[][]int{nil, {}, {1}, {1, 2}}, true},
		{[][]int{list[:2:2], nil, list[2:]}, true},
		{[][]int{list[:2], list[2:]}, false},
		{[][]int{list, list}, false},
		{[][]int{list[3:], {5}, list[:0]}, false},
	} {
		if is := sample.ApartLists(x.lists); is != x.want {
			t.Errorf("%v: %t", x.lists, is)
		}
	}
}
