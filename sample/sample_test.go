package sample_test

import (
	"strings"
	"testing"

	"quern/alir"
	"quern/api"
	"quern/lex"
	"quern/lir"
	"quern/parse"
	"quern/sample"
	"quern/ssa"
	"quern/types"
)

const all = `f(v0 int, v1 bool, v2 ints) bool
0: v3 const -3; v4 const true; v5 const nil; v6 input; branch v1 1 2
1: v7 add v0 v3; v8 call f v7 v4 v5; jump 2
2: v9 phi.int v0 v7; v10 phi.bool v1 v8; v11 phi.ints v2 v5; v12 print v9; v13 trapbound 2 v9 v3; v14 store v11 v9 v9; branch v10 3 4
3: return v10
4: panic v9
main()
0: v0 call g; return
g()
0: return
`

func TestReadAndTell(t *testing.T) {
	s := sample.SSA(all)
	if e := ssa.Check(s); e != api.OK || s.Main != 1 || sample.Tell(s) != all {
		t.Errorf("%v, main %d:\n%s", e, s.Main, sample.Tell(s))
	}
	for _, x := range []struct{ what, text, want string }{
		{"by places", "main()\n0: a const 1; print a; b neg a; panic b", "main()\n0: v0 const 1; v1 print v0; v2 neg v0; panic v2\n"},
		{"by numbers", "main()\n0: v1 const 1; v0 print v1; return", "main()\n0: v1 const 1; v0 print v1; return\n"},
		{"of parameters, too", "f(v1 int) int\n0: v0 neg v1; return v0\nmain()\n0: return", "f(v1 int) int\n0: v0 neg v1; return v0\nmain()\n0: return\n"},
	} {
		s := sample.SSA(x.text)
		if e := ssa.Check(s); e != api.OK || sample.Tell(s) != x.want {
			t.Errorf("%s: %v:\n%s", x.what, e, sample.Tell(s))
		}
	}
	for _, text := range []string{"main()\n0: a nothing b; return", "main()\n0: print b; return", "main()\n0: a const x; return", "main()\n0: leave", "main() text\n0: return"} {
		func() {
			defer func() {
				if recover() == nil {
					t.Errorf("%s is read", text)
				}
			}()
			sample.SSA(text)
		}()
	}
}

func TestDrawn(t *testing.T) {
	d := sample.Dice(1)
	for range 1000 {
		s := sample.DrawSSA(&d)
		told := sample.Tell(s)
		if e := ssa.Check(s); e != api.OK || sample.Tell(sample.Spaced(s)) != told {
			t.Fatalf("%v:\n%s", e, told)
		}
		if e := ssa.Check(sample.Mixed(&d, s)); e != api.OK || sample.Tell(s) != told {
			t.Fatalf("mixed: %v:\n%s", e, told)
		}
	}
	for i := range 300 {
		text := sample.DrawText(&d, d.Below(40), i%2 == 0)
		tokens, _, e := lex.Tokens([]byte(text))
		tree, _, _, no := parse.Parse(tokens, len(text))
		if _, at, why := types.Types(tree); e != api.OK || no != api.OK || why != api.OK {
			t.Fatalf("%v, %v, %v at %d: %s", e, no, why, at, text)
		}
	}
}

func TestBuilt(t *testing.T) {
	if is, want := sample.Tell(sample.Built("func main() { print(3); }")), "main()\n0: v0 const 3; v1 print v0; return\n"; is != want {
		t.Errorf("%s, want %s", is, want)
	}
	for _, text := range []string{"$", "func", "", "func main() { var x int = true; }", "func main() {} func f(a int, b int, c int, d int, e int, f int, g int, h int, i int) {}"} {
		func() {
			defer func() {
				if recover() == nil {
					t.Errorf("%s is built", text)
				}
			}()
			sample.Built(text)
		}()
	}
}

func TestWrongs(t *testing.T) {
	var met []api.Errno
	for _, x := range sample.Wrongs() {
		if e := ssa.Check(x.Program); e != x.Why {
			t.Errorf("%v, want %v", e, x.Why)
		}
		met = append(met, x.Why)
	}
	if len(met) != int(api.ErrSSAUse-api.ErrSSAForm)+1 {
		t.Errorf("not all errors: %v", met)
	}
}

// TestMemory: what the tests of other packages lean on is told, in lists and in their spare room.
func TestMemory(t *testing.T) {
	s := sample.Spaced(sample.SSA(all))
	before := sample.Shape(s)
	for i, list := range sample.Lists(s) {
		list[:cap(list)][cap(list)-1]++
		if sample.Shape(s) == before {
			t.Errorf("the list %d: what was written into its spare room is not told", i)
		}
		list[:cap(list)][cap(list)-1]--
	}
	if sample.Shape(s) != before || !strings.Contains(before, "spare") {
		t.Error("two shapes of one program")
	}
	if !sample.Parted(sample.Spaced(s)) {
		t.Error("parted lists are told to share memory")
	}
	shared := sample.Spaced(s)
	b := shared.Funcs[0].Blocks
	b[1].Preds = b[2].Preds[:0]
	if sample.Parted(shared) {
		t.Error("lists that share memory are not told")
	}
	sample.Spoil(s)
	if s.Funcs[0].Values != nil || s.Funcs[:cap(s.Funcs)][len(s.Funcs)].Name != "" {
		t.Error("not all is spoilt")
	}
}

const allLIR = `f(r3, r1) bool regs 9
0: r0 const -3; r2 input; r8 move r2; branch r1 1 2
1: r4 add r0 r3; r5 call f r4 r1; call f r4 r5; jump 2
2: print r3; printbool r1; trapbound 2 r3 r0; trapzero 5 r0; store r3 r3 r0; branch r1 3 4
3: return r1
4: panic r0
main() regs 0
0: call g; return
g() regs 1
0: r0 alloc r0; return
`

func TestReadAndTellLIR(t *testing.T) {
	l := sample.LIR(allLIR)
	if l.Main != 1 || l.Funcs[0].Regs != 9 || len(l.Funcs[0].Params) != 2 || sample.TellLIR(l) != allLIR {
		t.Errorf("main %d:\n%s", l.Main, sample.TellLIR(l))
	}
	if is, want := sample.TellLIR(sample.LIR("main()\n0: r1 const 1; r0 neg r1; panic r7")), "main() regs 8\n0: r1 const 1; r0 neg r1; panic r7\n"; is != want {
		t.Errorf("%s, want %s", is, want)
	}
	for _, text := range []string{"main()\n0: r1 nothing r0; return", "main()\n0: print b; return", "main()\n0: a const 1; return", "main()\n0: r1 const x; return", "main()\n0: leave", "main()\n0: call g; return", "main() text\n0: return"} {
		func() {
			defer func() {
				if recover() == nil {
					t.Errorf("%s is read", text)
				}
			}()
			sample.LIR(text)
		}()
	}
}

func TestDrawnLIR(t *testing.T) {
	d := sample.Dice(1)
	for range 1000 {
		l := sample.DrawLIR(&d)
		told := sample.TellLIR(l)
		again := sample.LIR(told)
		again.Main = l.Main
		if e := lir.Check(l); e != api.OK || sample.TellLIR(sample.SpacedLIR(l)) != told || sample.ShapeLIR(sample.SpacedLIR(again)) != sample.ShapeLIR(sample.SpacedLIR(l)) {
			t.Fatalf("%v:\n%s", e, told)
		}
	}
}

func TestMemoryLIR(t *testing.T) {
	l := sample.SpacedLIR(sample.LIR(allLIR))
	before := sample.ShapeLIR(l)
	for i, list := range sample.LIRLists(l) {
		if cap(list) == 0 { // of what stands in spare room
			continue
		}
		list[:cap(list)][cap(list)-1]++
		if sample.ShapeLIR(l) == before {
			t.Errorf("the list %d: what was written into its spare room is not told", i)
		}
		list[:cap(list)][cap(list)-1]--
	}
	body := l.Funcs[0].Blocks[0].Body
	body[:cap(body)][len(body)].Imm++
	if sample.ShapeLIR(l) == before {
		t.Error("what was written into a Body's spare room is not told")
	}
	body[:cap(body)][len(body)].Imm--
	if sample.ShapeLIR(l) != before || !strings.Contains(before, "spare") {
		t.Error("two shapes of one program")
	}
	if !sample.PartedLIR(sample.SpacedLIR(l)) {
		t.Error("parted lists are told to share memory")
	}
	for what, share := range map[string]func(f []api.LFunc){
		"numbers":            func(f []api.LFunc) { f[0].Blocks[1].Body[0].Args = f[0].Params[1:] },
		"numbers' room":      func(f []api.LFunc) { f[0].Blocks[1].Body[0].Args = f[0].Params[2:] },
		"instructions":       func(f []api.LFunc) { f[0].Blocks[1].Body = f[0].Blocks[0].Body[2:] },
		"instructions' room": func(f []api.LFunc) { f[0].Blocks[3].Body = f[0].Blocks[0].Body[3:] },
		"blocks":             func(f []api.LFunc) { f[1].Blocks = f[0].Blocks[2:] },
		"blocks' room":       func(f []api.LFunc) { f[1].Blocks = f[0].Blocks[5:] },
	} {
		shared := sample.SpacedLIR(l)
		share(shared.Funcs)
		if sample.PartedLIR(shared) {
			t.Errorf("lists of %s that share memory are not told", what)
		}
	}
	block := l.Funcs[0].Blocks[0]
	sample.SpoilLIR(l)
	if l.Funcs[0].Blocks != nil || l.Funcs[:cap(l.Funcs)][len(l.Funcs)].Name != "" || block.Term.To[0] != -77 || block.Body[0].Op != -1 {
		t.Error("not all is spoilt")
	}
}

func TestApartLists(t *testing.T) {
	list := []int{1, 2, 3, 4}
	for _, x := range []struct {
		lists [][]int
		want  bool
	}{
		{nil, true},
		{[][]int{nil, {}, {1}, {1, 2}}, true},
		{[][]int{list[:2:2], nil, list[2:]}, true},
		{[][]int{list[:2], list[2:]}, false},
		{[][]int{list, list}, false},
		{[][]int{list[3:], {5}, list[:0]}, false},
	} {
		if is := sample.ApartLists(x.lists); is != x.want {
			t.Errorf("%v: %t", x.lists, is)
		}
	}
}

const allALIR = `f(r3, s1) bool slots 9
0: r0 const -3; s2 input; r7 move s2; branch s1 1 2
1: r4 add r0 s3; s5 call f r4 s1; call f r4 s5 save 0 7; r1 call f s1 s1 save 3; jump 2
2: print r3; printbool s1; trapbound 2 r3 s0; trapzero 5 r0; store r3 r3 s0; branch r1 3 4
3: return s1
4: panic r0
main() slots 0
0: call g; return
g() slots 1
0: s0 alloc s0; return
`

func TestReadAndTellALIR(t *testing.T) {
	a := sample.ALIR(allALIR)
	if a.Main != 1 || a.Funcs[0].Slots != 9 || len(a.Funcs[0].Params) != 2 || len(a.Funcs[0].Blocks[1].Body[2].Saves) != 2 || sample.TellALIR(a) != allALIR {
		t.Errorf("main %d:\n%s", a.Main, sample.TellALIR(a))
	}
	if is, want := sample.TellALIR(sample.ALIR("main()\n0: s1 const 1; r0 neg s1; panic s7")), "main() slots 8\n0: s1 const 1; r0 neg s1; panic s7\n"; is != want {
		t.Errorf("%s, want %s", is, want)
	}
	for _, text := range []string{"main()\n0: r1 nothing r0; return", "main()\n0: print b; return", "main()\n0: a const 1; return", "main()\n0: s const 1; return", "main()\n0: call main save r1; return",
		"main()\n0: leave", "main()\n0: call g; return", "main() text\n0: return", "main() regs 3\n0: return"} {
		func() {
			defer func() {
				if recover() == nil {
					t.Errorf("%s is read", text)
				}
			}()
			sample.ALIR(text)
		}()
	}
}

func TestDrawnALIR(t *testing.T) {
	d := sample.Dice(1)
	for i := range 1000 {
		a := sample.DrawALIR(&d)
		if i%2 == 0 {
			a = sample.Placed(&d, sample.DrawLIR(&d))
		}
		told := sample.TellALIR(a)
		again := sample.ALIR(told)
		again.Main = a.Main
		if e := alir.Check(a); e != api.OK || sample.TellALIR(sample.SpacedALIR(a)) != told || sample.ShapeALIR(sample.SpacedALIR(again)) != sample.ShapeALIR(sample.SpacedALIR(a)) {
			t.Fatalf("%v:\n%s", e, told)
		}
	}
}

// TestPlaced: each register has a place of its own.
func TestPlaced(t *testing.T) {
	d := sample.Dice(1)
	for range 100 {
		l := sample.DrawLIR(&d)
		a := sample.Placed(&d, l)
		for i, f := range l.Funcs {
			has, of := map[int]api.Loc{}, map[api.Loc]int{}
			meet := func(r int, p api.Loc) {
				if q, is := has[r]; is && q != p {
					t.Errorf("the register %d is at %v and at %v", r, p, q)
				}
				if s, is := of[p]; is && s != r {
					t.Errorf("the registers %d and %d are both at %v", r, s, p)
				}
				has[r], of[p] = p, r
			}
			for b, block := range f.Blocks {
				for k, x := range block.Body {
					y := a.Funcs[i].Blocks[b].Body[k]
					meet(x.Dst, y.Dst)
					for n, r := range x.Args {
						meet(r, y.Args[n])
					}
					if x.Op == api.InsCall && len(y.Saves) != api.Allocated || x.Op != api.InsCall && len(y.Saves) > 0 {
						t.Errorf("Saves %v", y.Saves)
					}
				}
				meet(block.Term.Value, a.Funcs[i].Blocks[b].Term.Value)
			}
			for n, r := range f.Params {
				meet(r, a.Funcs[i].Params[n])
			}
		}
	}
}

func TestMemoryALIR(t *testing.T) {
	a := sample.SpacedALIR(sample.ALIR(allALIR))
	before := sample.ShapeALIR(a)
	hold := func(what string, write func(by int)) {
		write(1)
		if sample.ShapeALIR(a) == before {
			t.Errorf("%s: what was written is not told", what)
		}
		write(-1)
	}
	numbers, places := sample.ALIRLists(a)
	for _, list := range numbers {
		for i := range list[:cap(list)] {
			hold("a number", func(by int) { list[:cap(list)][i] += by })
		}
	}
	for _, list := range places {
		for i := range list[:cap(list)] {
			hold("a place's kind", func(by int) { list[:cap(list)][i].Kind += by })
			hold("a place's number", func(by int) { list[:cap(list)][i].N += by })
		}
	}
	for _, f := range a.Funcs {
		for b := range f.Blocks[:cap(f.Blocks)] {
			x := &f.Blocks[:cap(f.Blocks)][b]
			hold("a Term", func(by int) { x.Term.Value.N += by })
			for i := range x.Body[:cap(x.Body)] {
				hold("an instruction", func(by int) { x.Body[:cap(x.Body)][i].Imm += by })
				hold("a Dst", func(by int) { x.Body[:cap(x.Body)][i].Dst.Kind += by })
			}
		}
	}
	for i := range a.Funcs[:cap(a.Funcs)] {
		hold("a function", func(by int) { a.Funcs[:cap(a.Funcs)][i].Slots += by })
	}
	if sample.ShapeALIR(a) != before || !strings.Contains(before, "spare") {
		t.Error("two shapes of one program")
	}
	if !sample.PartedALIR(sample.SpacedALIR(a)) {
		t.Error("parted lists are told to share memory")
	}
	for what, share := range map[string]func(f []api.AFunc){
		"numbers":            func(f []api.AFunc) { f[0].Blocks[1].Body[2].Saves = f[0].Blocks[0].Term.To },
		"numbers' room":      func(f []api.AFunc) { f[0].Blocks[1].Body[2].Saves = f[0].Blocks[0].Term.To[2:] },
		"places":             func(f []api.AFunc) { f[0].Blocks[1].Body[0].Args = f[0].Params[1:] },
		"places' room":       func(f []api.AFunc) { f[0].Blocks[1].Body[0].Args = f[0].Params[2:] },
		"instructions":       func(f []api.AFunc) { f[0].Blocks[1].Body = f[0].Blocks[0].Body[2:] },
		"instructions' room": func(f []api.AFunc) { f[0].Blocks[3].Body = f[0].Blocks[0].Body[3:] },
		"blocks":             func(f []api.AFunc) { f[1].Blocks = f[0].Blocks[2:] },
		"blocks' room":       func(f []api.AFunc) { f[1].Blocks = f[0].Blocks[5:] },
	} {
		shared := sample.SpacedALIR(a)
		share(shared.Funcs)
		if sample.PartedALIR(shared) {
			t.Errorf("lists of %s that share memory are not told", what)
		}
	}
	block := a.Funcs[0].Blocks[1]
	args, saves := block.Body[0].Args, block.Body[2].Saves
	sample.SpoilALIR(a)
	if a.Funcs[0].Blocks != nil || a.Funcs[:cap(a.Funcs)][len(a.Funcs)].Name != "" || block.Term.To[0] != -77 || block.Body[0].Op != -1 || args[:cap(args)][2].Kind != -77 || saves[:cap(saves)][2] != -77 {
		t.Error("not all is spoilt")
	}
}
