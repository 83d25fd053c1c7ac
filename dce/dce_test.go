package dce_test

import (
	"strings"
	"testing"

	"quern/api"
	"quern/dce"
	"quern/sample"
	"quern/ssa"
)

// cleaned is what Clean answers of what is SSA: SSA too, and the same when it is cleaned again.
func cleaned(t testing.TB, s api.SSA) api.SSA {
	t.Helper()
	c, e := dce.Clean(s)
	if e != api.OK {
		t.Fatalf("Clean: %v of\n%s", e, sample.Tell(s))
	}
	if e := ssa.Check(c); e != api.OK {
		t.Fatalf("P1203: what is left is no SSA: %v of\n%+v", e, c)
	}
	again, e := dce.Clean(c)
	if e != api.OK || again.Main != c.Main || sample.Tell(again) != sample.Tell(c) {
		t.Fatalf("P1203: Clean of what is left: %v\n%s, not\n%s", e, sample.Tell(again), sample.Tell(c))
	}
	return c
}

// row is a program, and what is left of it: with values by the numbers of their names, or by their places in the text.
type row struct{ what, text, want string }

func holdRows(t *testing.T, rows []row) {
	t.Helper()
	for _, r := range rows {
		c, want := cleaned(t, sample.SSA(r.text)), sample.SSA(r.want)
		if is := sample.Tell(c); is != sample.Tell(want) || c.Main != want.Main {
			t.Errorf("%s:\n%swant\n%s", r.what, is, sample.Tell(want))
		}
	}
}

// inMain are rows whose texts are main's blocks.
func inMain(rows []row) []row {
	for i := range rows {
		rows[i].text, rows[i].want = "main()\n"+rows[i].text, "main()\n"+rows[i].want
	}
	return rows
}

func TestExamples(t *testing.T) {
	holdRows(t, inMain([]row{
		{"a sum that nobody reads", "0: v0 const 1; v1 const 2; v2 add v0 v1; v3 print v1; return", "0: v0 const 2; v1 print v0; return"},
		{"a quotient that nobody reads", "0: v0 const 1; v1 const 0; v2 trapzero 1 v1; v3 div v0 v1; return", "0: v0 const 0; v1 trapzero 1 v0; return"},
		{"a length that nobody reads", "0: v0 input; v1 alloc v0; v2 len v1; return", "0: v0 input; v1 alloc v0; return"},
		{"another order", "0: v1 const 3; v0 print v1; return", "0: v0 const 3; v1 print v0; return"},
	}))
	holdRows(t, []row{
		{"the loop", sample.Loop, sample.Loop},
		{"the loop without v4", strings.Replace(sample.Loop, "v4 print v1; ", "v4 const 9; ", 1), `main()
			0: v0 const 0; jump 1
			1: v1 phi.int v0 v5; v2 const 3; v3 lt v1 v2; branch v3 2 3
			2: v4 const 1; v5 add v1 v4; jump 1
			3: return`},
		{"the loop without v4, v3 Lt of v2 and v2", strings.NewReplacer("v4 print v1; ", "v4 const 9; ", "lt v1 v2", "lt v2 v2").Replace(sample.Loop), `main()
			0: jump 1
			1: v0 const 3; v1 lt v0 v0; branch v1 2 3
			2: jump 1
			3: return`},
	})
}

func TestP1201Errors(t *testing.T) {
	refused := func(what string, s api.SSA, why api.Errno) {
		t.Helper()
		if c, e := dce.Clean(s); e != why || c.Funcs != nil || c.Main != 0 {
			t.Errorf("%s: %v %+v, want %v", what, e, c, why)
		}
	}
	good := sample.SSA("f(a int) int\n0: return a\nmain()\n0: return").Funcs
	for _, x := range sample.Wrongs() {
		refused("no SSA", x.Program, x.Why)
		wrong := x.Program.Funcs[0]
		if wrong.Name == "main" {
			wrong.Name = "g"
		}
		refused("no SSA in the last function", api.SSA{Funcs: []api.SFunc{good[0], good[1], wrong}, Main: 1}, x.Why)
		refused("no SSA in the first function", api.SSA{Funcs: []api.SFunc{wrong, good[0], good[1]}, Main: 2}, x.Why)
		refused("no SSA, and another Main", api.SSA{Funcs: []api.SFunc{wrong, good[0], good[1]}, Main: 1}, api.ErrSSAForm)
	}
	refused("nothing", api.SSA{}, api.ErrSSAForm)
	refused("no function with that number", api.SSA{Funcs: good, Main: 2}, api.ErrSSAForm)
	refused("a function without a block", api.SSA{Funcs: []api.SFunc{{Name: "main"}}}, api.ErrSSAForm)
	// Also where all that is wrong would be taken away.
	refused("a value that nobody wants, of another type", turned(func(f *api.SFunc) { f.Values[0].Type = api.TypeBool; f.Values[0].Imm = 2 }), api.ErrSSAType)
	refused("a value that nobody wants, ahead of its Arg", turned(func(f *api.SFunc) { f.Blocks[0].Body = []int{1, 0} }), api.ErrSSAUse)
	refused("a value that stands nowhere", turned(func(f *api.SFunc) { f.Blocks[0].Body = []int{0} }), api.ErrSSATwice)
	refused("a value that is none", turned(func(f *api.SFunc) { f.Values[1].Op = api.InsMove }), api.ErrSSAForm)
}

// turned is a program in which nobody wants anything, with one thing turned.
func turned(turn func(f *api.SFunc)) api.SSA {
	s := sample.SSA("main()\n0: v0 const 2; v1 neg v0; return")
	turn(&s.Funcs[0])
	return s
}

// operations are values, by their operation's name, of what ahead makes: all that can stand in a Body.
func operations() (rows []struct{ op, args string }) {
	for _, op := range strings.Fields("add sub mul div rem and or xor bic shl shr eq ne lt le") {
		rows = append(rows, struct{ op, args string }{op, "i j"})
	}
	return append(rows, []struct{ op, args string }{{"eq", "b c"}, {"ne", "l m"}, {"neg", "i"}, {"inv", "i"}, {"not", "b"}, {"len", "l"}, {"load", "l i"},
		{"const", "7"}, {"const", "true"}, {"const", "nil"}, {"store", "l i j"}, {"alloc", "i"}, {"input", ""}, {"call", "f i b l"}, {"call", "g"},
		{"print", "i"}, {"printbool", "b"}, {"trapzero", "1 i"}, {"trapneg", "4 j"}, {"trapbound", "2 i j"}}...)
}

// TestP1201Operations: which ones stay where nobody reads them.
func TestP1201Operations(t *testing.T) {
	const functions = "f(i int, b bool, l ints) ints\n0: return l\ng()\n0: return\nmain()\n0: call f2; return\nf2()\n0: "
	const ahead = "i const 1; j const 2; b const true; c const false; l const nil; m const nil; "
	stay := " store alloc input call print printbool trapzero trapneg trapbound "
	for _, x := range operations() {
		value := x.op + " " + x.args + "; "
		left := ""
		if strings.Contains(stay, " "+x.op+" ") {
			for _, one := range strings.SplitAfter(ahead, "; ") { // what it reads, in the order in which it stands
				if name, _, is := strings.Cut(one, " "); is && strings.Contains(" "+x.args+" ", " "+name+" ") {
					left += one
				}
			}
			left += value
		}
		holdRows(t, []row{{"P1201: " + value + "nobody reads it", functions + ahead + value + "return", functions + left + "return"}})
	}
}

// TestP1201OperationsRead: each one stays where it is read, with what it reads.
func TestP1201OperationsRead(t *testing.T) {
	const functions = "f(i int, b bool, l ints) ints\n0: return l\nmain()\n0: "
	const ahead = "i input; k input; j add i k; z const 0; b lt i j; c le i j; l alloc i; m alloc j; "
	for _, x := range operations() {
		use := ""
		switch {
		case x.op == "alloc" || x.args == "nil" || x.args == "f i b l":
			use = "n len x; print n; "
		case strings.Contains(" eq ne lt le not ", " "+x.op+" ") || x.args == "true":
			use = "printbool x; "
		case strings.Contains(" store print printbool trapzero trapneg trapbound ", " "+x.op+" ") || x.args == "g":
			continue
		default:
			use = "print x; "
		}
		left := ahead
		for _, unread := range []string{"b lt i j; ", "c le i j; ", "z const 0; "} {
			if !strings.Contains(" "+x.args+" ", " "+unread[:1]+" ") {
				left = strings.Replace(left, unread, "", 1)
			}
		}
		// j stays, as m's size wants it.
		value := "x " + x.op + " " + x.args + "; " + use
		holdRows(t, []row{{"P1201: " + value, functions + ahead + value + "return", functions + left + value + "return"}})
	}
}

func TestP1201Params(t *testing.T) {
	holdRows(t, []row{
		{"nobody reads them", "f(a int, b bool, c ints, d int, e int, g int, h int, i bool) int\n0: x const 1; return x\nmain()\n0: return",
			"f(a int, b bool, c ints, d int, e int, g int, h int, i bool) int\n0: x const 1; return x\nmain()\n0: return"},
		{"one is read by what nobody wants", "f(a int, b int)\n0: x add a b; y neg x; return\nmain()\n0: a const 1; b const 2; call f a b; return",
			"f(a int, b int)\n0: return\nmain()\n0: a const 1; b const 2; call f a b; return"},
		{"some are read", "f(a int, b int, c int) int\n0: x add a a; y mul c c; return y\nmain()\n0: return",
			"f(a int, b int, c int) int\n0: y mul c c; return y\nmain()\n0: return"},
		{"their numbers are the last ones, the last of them first", "f(v3 int, v2 bool) int\n0: v1 const 1; v0 add v3 v1; return v0\nmain()\n0: return",
			"f(v0 int, v1 bool) int\n0: v2 const 1; v3 add v0 v2; return v3\nmain()\n0: return"},
	})
}

func TestP1201Chains(t *testing.T) {
	holdRows(t, inMain([]row{
		{"a chain that nobody wants", "0: a const 1; b neg a; c inv b; d add c b; e lt d a; f not e; return", "0: return"},
		{"a chain of which the last one is wanted", "0: a const 1; b neg a; c inv b; d add c b; e lt d a; f not e; printbool f; return",
			"0: a const 1; b neg a; c inv b; d add c b; e lt d a; f not e; printbool f; return"},
		{"a chain that is wanted up to its middle", "0: a const 1; b neg a; c inv b; print c; d add c b; e lt d a; f not e; return",
			"0: a const 1; b neg a; c inv b; print c; return"},
		{"two chains that read the same", "0: a const 1; b neg a; c neg a; d inv b; e inv c; print e; return", "0: a const 1; c neg a; e inv c; print e; return"},
		{"a chain through blocks", `0: a const 1; b const 2; jump 1
			1: c add a b; d const true; branch d 2 3
			2: e add c c; jump 4
			3: f mul c c; jump 4
			4: g phi.int e f; h neg g; return`, `0: jump 1
			1: d const true; branch d 2 3
			2: jump 4
			3: jump 4
			4: return`},
		{"what a wanted one reads behind ones that are not", "0: n const 9; a const 1; b const 2; c const 3; d alloc b; e load d a; store d a c; return",
			"0: a const 1; b const 2; c const 3; d alloc b; store d a c; return"},
		{"all of them are wanted", "0: a input; b alloc a; c len b; d const 0; trapbound 2 d c; store b d c; return",
			"0: a input; b alloc a; c len b; d const 0; trapbound 2 d c; store b d c; return"},
	}))
}

func TestP1201Circles(t *testing.T) {
	const around = "0: z const 0; c const true; jump 1\n1: "
	holdRows(t, inMain([]row{
		{"a Phi that reads itself", around + "a phi.int z a; branch c 1 2\n2: return", "0: c const true; jump 1\n1: branch c 1 2\n2: return"},
		{"Phis that read each other", around + "a phi.int z b; b phi.int z a; branch c 1 2\n2: return", "0: c const true; jump 1\n1: branch c 1 2\n2: return"},
		{"a Phi and a Body that read each other", around + "a phi.int z b; k const 1; b add a k; branch c 1 2\n2: return", "0: c const true; jump 1\n1: branch c 1 2\n2: return"},
		{"a circle of three, of which one is wanted behind the loop", around + "a phi.int z b; b phi.int z d; d phi.int z a; branch c 1 2\n2: print d; return",
			around + "a phi.int z b; b phi.int z d; d phi.int z a; branch c 1 2\n2: print d; return"},
		{"two circles, of which one is wanted", around + "a phi.int z b; b phi.int z a; d phi.int z e; e phi.int z d; branch c 1 2\n2: print e; return",
			around + "d phi.int z e; e phi.int z d; branch c 1 2\n2: print e; return"},
		{"a circle that a circle reads, which nobody wants", around + "a phi.int z b; b phi.int z a; k add a b; d phi.int z e; e add d k; branch c 1 2\n2: return",
			"0: c const true; jump 1\n1: branch c 1 2\n2: return"},
		{"circles of two loops", `0: z const 0; c const true; jump 1
			1: a phi.int z f; jump 2
			2: d phi.int a e; k const 1; e add d k; branch c 2 3
			3: f phi.int e; branch c 1 4
			4: return`, "0: c const true; jump 1\n1: jump 2\n2: branch c 2 3\n3: branch c 1 4\n4: return"},
	}))
}

func TestP1201Phis(t *testing.T) {
	const ways = "0: i input; z const 0; c lt i z; branch c 1 2\n1: a const 1; jump 3\n2: b const 2; jump 3\n"
	const left = "0: i input; z const 0; c lt i z; branch c 1 2\n1: jump 3\n2: jump 3\n"
	holdRows(t, inMain([]row{
		{"nobody wants it", ways + "3: p phi.int a b; return", left + "3: return"},
		{"a Body wants it", ways + "3: p phi.int a b; print p; return", ways + "3: p phi.int a b; print p; return"},
		{"a Term wants it", ways + "3: p phi.int a b; panic p", ways + "3: p phi.int a b; panic p"},
		{"a branch wants it", ways + "3: q phi.int a b; p phi.bool c c; branch p 4 5\n4: return\n5: return", left + "3: p phi.bool c c; branch p 4 5\n4: return\n5: return"},
		{"a Phi alone wants it", ways + "3: p phi.int a b; jump 4\n4: r phi.int p; print r; return", ways + "3: p phi.int a b; jump 4\n4: r phi.int p; print r; return"},
		{"a Phi that nobody wants reads it", ways + "3: p phi.int a b; jump 4\n4: r phi.int p; return", left + "3: jump 4\n4: return"},
		{"the first of two", ways + "3: p phi.int a b; q phi.int i i; print p; return", ways + "3: p phi.int a b; print p; return"},
		{"the second of two", ways + "3: q phi.int i i; p phi.int a b; print p; return", ways + "3: p phi.int a b; print p; return"},
		{"it stands for both ways of a branch", "0: i input; j input; z const 0; c lt i z; branch c 1 1\n1: p phi.int i j; q phi.int j i; print q; return",
			"0: i input; j input; z const 0; c lt i z; branch c 1 1\n1: q phi.int j i; print q; return"},
	}))
}

func TestP1201Terms(t *testing.T) {
	const after = "\nmain()\n0: return"
	holdRows(t, []row{
		{"a return", "f() int\n0: a const 1; b const 2; return b" + after, "f() int\n0: b const 2; return b" + after},
		{"a return of a bool", "f() bool\n0: a const true; b not a; c not b; return b" + after, "f() bool\n0: a const true; b not a; return b" + after},
		{"a return of a list", "f() ints\n0: a const nil; b const nil; return b" + after, "f() ints\n0: b const nil; return b" + after},
		{"a return of a parameter", "f(a int, b int) int\n0: c const 1; return b" + after, "f(a int, b int) int\n0: return b" + after},
		{"a panic", "f()\n0: a const 1; b const 2; c add a b; d add c a; panic c" + after, "f()\n0: a const 1; b const 2; c add a b; panic c" + after},
		{"a branch", "f()\n0: a const true; b not a; c not b; branch b 1 1\n1: return" + after, "f()\n0: a const true; b not a; branch b 1 1\n1: return" + after},
		{"one value of many Terms", `f() int
			0: x const 5; a const true; b const 1; branch a 1 2
			1: branch a 3 4
			2: panic b
			3: return b
			4: return b` + after, `f() int
			0: a const true; b const 1; branch a 1 2
			1: branch a 3 4
			2: panic b
			3: return b
			4: return b` + after},
		{"the last block's alone", "f() int\n0: a const 1; jump 1\n1: b const 2; jump 2\n2: return a" + after, "f() int\n0: a const 1; jump 1\n1: jump 2\n2: return a" + after},
		{"a return of none, and jumps", "f()\n0: a const 1; jump 1\n1: b const 2; return" + after, "f()\n0: jump 1\n1: return" + after},
	})
}

// TestP1202Order: Params, then block by block Phis and Body, whatever the numbers were.
func TestP1202Order(t *testing.T) {
	holdRows(t, []row{
		{"nothing is taken away", `f(v9 int, v8 bool) int
			0: v7 const 3; v3 print v7; branch v8 2 1
			1: v6 const 4; v0 add v6 v9; jump 2
			2: v2 phi.int v9 v0; v1 phi.bool v8 v8; v5 printbool v1; v4 neg v2; return v4
			main()
			0: return`, `f(v0 int, v1 bool) int
			0: v2 const 3; v3 print v2; branch v1 2 1
			1: v4 const 4; v5 add v4 v0; jump 2
			2: v6 phi.int v0 v5; v7 phi.bool v1 v1; v8 printbool v7; v9 neg v6; return v9
			main()
			0: return`},
		{"some are taken away", `main()
			0: v8 const 1; v7 const 2; v6 const 3; jump 2
			1: v5 phi.int v4; v3 print v7; return
			2: v4 phi.int v6; v2 neg v4; v1 inv v2; v0 print v2; jump 1`, `main()
			0: v0 const 2; v1 const 3; jump 2
			1: v2 print v0; return
			2: v3 phi.int v1; v4 neg v3; v5 print v4; jump 1`},
		{"a block that stands behind another one, which it dominates", `main()
			0: jump 2
			1: v0 print v1; return
			2: v1 input; jump 1`, `main()
			0: jump 2
			1: v0 print v1; return
			2: v1 input; jump 1`},
		{"Phis of a block in their order", `main()
			0: v0 const 1; v1 const 2; v2 const true; branch v2 1 1
			1: v5 phi.int v0 v1; v4 phi.int v1 v0; v3 phi.int v0 v0; v6 print v3; v7 print v5; return`, `main()
			0: v0 const 1; v1 const 2; v2 const true; branch v2 1 1
			1: v3 phi.int v0 v1; v4 phi.int v0 v0; v5 print v4; v6 print v3; return`},
		{"one that is read twice by one", "main()\n0: v2 const 1; v1 const 2; v0 add v1 v1; v3 print v0; return", "main()\n0: v0 const 2; v1 add v0 v0; v2 print v1; return"},
	})
}

// TestP1202TheRest: names, Results, Main, blocks, Preds and Terms stand.
func TestP1202TheRest(t *testing.T) {
	functions := []string{
		"f(a int) int\n0: x const 1; y add a x; z mul a x; r call g y; return r\n",
		"g(a int) int\n0: z const 0; x neg a; c le a z; branch c 1 2\n1: return a\n2: o const 1; w const 2; b sub a o; r call f b; return r\n",
		"h(a bool, b ints) bool\n0: x not a; y len b; return a\n",
		"k()\n0: x const true; l const nil; y call h x l; z const 4; panic z\n",
	}
	left := []string{
		"f(a int) int\n0: x const 1; y add a x; r call g y; return r\n",
		"g(a int) int\n0: z const 0; c le a z; branch c 1 2\n1: return a\n2: o const 1; b sub a o; r call f b; return r\n",
		"h(a bool, b ints) bool\n0: return a\n",
		"k()\n0: x const true; l const nil; y call h x l; z const 4; panic z\n",
	}
	const main, mainLeft = "main()\n0: n const 7; x neg n; r call f n; print r; call k; y add r n; return\n", "main()\n0: n const 7; r call f n; print r; call k; return\n"
	for at := range len(functions) + 1 {
		place := func(list []string, one string) string {
			return strings.Join(list[:at], "") + one + strings.Join(list[at:], "")
		}
		holdRows(t, []row{{"main at another place", place(functions, main), place(left, mainLeft)}})
		if c := cleaned(t, sample.SSA(place(functions, main))); c.Main != at {
			t.Errorf("Main: %d, want %d", c.Main, at)
		}
	}
	holdRows(t, []row{
		{"blocks that have become empty stay", "main()\n0: a const 1; jump 1\n1: b neg a; jump 2\n2: c neg b; c2 const true; branch c2 3 3\n3: d neg c; return",
			"main()\n0: jump 1\n1: jump 2\n2: c2 const true; branch c2 3 3\n3: return"},
		{"calls of main, and of itself", "main()\n0: a input; b const 0; c lt a b; branch c 1 2\n1: d neg a; call main; return\n2: return",
			"main()\n0: a input; b const 0; c lt a b; branch c 1 2\n1: call main; return\n2: return"},
		{"a call whose number nobody reads", "f(a int) int\n0: b neg a; return b\nmain()\n0: a const 1; b call f a; c add b b; return",
			"f(a int) int\n0: b neg a; return b\nmain()\n0: a const 1; b call f a; return"},
		{"a function that nobody calls", "f() ints\n0: a const 3; b alloc a; c const nil; return c\nmain()\n0: return", "f() ints\n0: a const 3; b alloc a; c const nil; return c\nmain()\n0: return"},
	})
}
