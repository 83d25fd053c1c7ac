package compile_test

import (
	"slices"
	"strings"
	"testing"

	"quern/api"
	"quern/compile"
	"quern/sample"
)

// compiled is the program of a text that is not refused.
func compiled(t testing.TB, text string) api.Program {
	t.Helper()
	p, f := compile.Compile([]byte(text))
	if f != (api.Fault{}) {
		t.Fatalf("P2402: refused: %+v: %.300s", f, text)
	}
	return p
}

// nothing tells whether a program is the zero one.
func nothing(p api.Program) bool {
	return p.Code.Ins == nil && p.Code.Funcs == nil && p.Code.Main == 0 && p.Reports == nil && p.Nodes == 0
}

// refused holds that a text is refused so, with no program beside it.
func refused(t testing.TB, text string, class, at, what int) {
	t.Helper()
	p, f := compile.Compile([]byte(text))
	if want := (api.Fault{Class: class, At: at, What: what}); f != want || !nothing(p) {
		t.Errorf("P2401: %+v, with %d instructions, %d reports, %d nodes; want %+v: %.300s", f, len(p.Code.Ins), len(p.Reports), p.Nodes, want, text)
	}
}

func TestExamples(t *testing.T) {
	refused(t, "", api.ClassType, 0, 51)
	refused(t, "func main() {", api.ClassSyntax, 13, 41)
	refused(t, "func main() { x = 1 }", api.ClassSyntax, 20, 40)
	refused(t, "func main() { $ } }", api.ClassSyntax, 14, 20)
	refused(t, "func main() } $", api.ClassSyntax, 12, 40)
	refused(t, "func main() {} $", api.ClassSyntax, 15, 20)
	refused(t, "func main() { print(x); }", api.ClassType, 20, 52)
	refused(t, "func main() "+strings.Repeat("{", 201)+strings.Repeat("}", 201), api.ClassLimit, 0, 1)
	refused(t, "func main() {} func f(a int, b int, c int, d int, e int, f int, g int, h int, i int) {}", api.ClassLimit, 15, 2)
	p := compiled(t, "func main() {}")
	if len(p.Code.Funcs) != 1 || p.Code.Funcs[0].Frame != 2 || !slices.Equal(p.Code.Ins, []api.Ins{{Op: api.RRet}}) {
		t.Errorf("P2402: %+v", p)
	}
}

// program is a text, and what is made of it: its code (Main aside), how many nodes its tree has, its reports.
type program struct {
	what, text, code string
	nodes            int
	reports          []api.Report
}

func report(name string, frame, saves, spills, vregs, values, blocks int) api.Report {
	return api.Report{Name: name, Frame: frame, Saves: saves, Spills: spills, Vregs: vregs, Values: values, Blocks: blocks}
}

func programs() []program {
	return []program{
		{"nothing to do", "func main() {}", "main() frame 2\n0: ret", 2, []api.Report{report("main", 2, 0, 0, 0, 0, 1)}},
		{"chapter 26's", "func main() { print(input() + 1); }", "main() frame 2\n0: inp r0; ldi r1 1; add r0 r0 r1; outi r0; ret", 6, []api.Report{report("main", 2, 0, 0, 4, 4, 1)}},
		{"a value that nobody wants: it is one as built, and no register of LIR", "func main() { var a int = 1; var b int = 2; print(b); }",
			"main() frame 2\n0: ldi r0 2; outi r0; ret", 8, []api.Report{report("main", 2, 0, 0, 2, 3, 1)}},
		{"moves in a circle: a register of LIR that is no value", "func main() { var a int = 1; var b int = 2; var i int; for i < 5 { var c int = a; a = b; b = c; i = i + 1; } print(a); print(b); }",
			`main() frame 2
			0: ldi r0 1; ldi r1 2; ldi r2 0
			3: ldi r3 5; lt r3 r2 r3; bz r3 13
			6: ldi r3 1; add r3 r2 r3; mov r2 r3; mov r3 r1; mov r1 r0; mov r0 r3; jmp 3
			13: outi r0; outi r1; ret`, 26, []api.Report{report("main", 2, 0, 0, 13, 12, 4)}},
		{"a block of LIR that is none of SSA", "func main() { var b bool = input() > 1 && input() > 2; print(b); }",
			"main() frame 2\n0: inp r0; ldi r1 1; lt r0 r1 r0; bz r0 8; inp r1; ldi r2 2; lt r1 r2 r1; jmp 9; mov r1 r0; outb r1; ret", 12, []api.Report{report("main", 2, 0, 0, 8, 8, 3)}},
		{"ten at a time: two spills", "func main() { var a int = input(); var b int = input(); var c int = input(); var d int = input(); var e int = input(); var f int = input(); var g int = input(); var h int = input(); var i int = input(); var j int = input();" +
			"print(a); print(b); print(c); print(d); print(e); print(f); print(g); print(h); print(i); print(j); }",
			`main() frame 4
			0: inp r0; inp r1; inp r2; inp r3; inp r4; inp r5; inp r6; inp r7; inp r8; sts r8 2; inp r8; sts r8 3
			12: outi r0; outi r1; outi r2; outi r3; outi r4; outi r5; outi r6; outi r7; lds r8 2; outi r8; lds r8 3; outi r8; ret`, 42, []api.Report{report("main", 4, 0, 2, 20, 20, 1)}},
		{"two saved around a call", "func one() int { return 1; } func main() { var a int = input(); var b int = input(); one(); print(a + b); print(one()); }",
			`one() frame 2
			0: ldi r0 1; ret
			main() frame 4
			2: inp r0; inp r1; sts r0 2; sts r1 3; call one; mov r8 r0; lds r0 2; lds r1 3; mov r2 r8
			11: add r0 r0 r1; outi r0; call one; mov r8 r0; mov r0 r8; outi r0; ret`, 18, []api.Report{report("one", 2, 0, 0, 1, 1, 1), report("main", 4, 2, 0, 7, 7, 1)}},
		{"both: eight saved and one spill", "func f(a int, b int, c int, d int, e int, f int, g int, h int) int { var i int = input(); main(); return a + b + c + d + e + f + g + h + i; } func main() {}",
			`f(8) frame 11
			0: inp r8; sts r8 10; sts r0 2; sts r1 3; sts r2 4; sts r3 5; sts r4 6; sts r5 7; sts r6 8; sts r7 9; call main
			11: lds r0 2; lds r1 3; lds r2 4; lds r3 5; lds r4 6; lds r5 7; lds r6 8; lds r7 9
			19: add r0 r0 r1; add r0 r0 r2; add r0 r0 r3; add r0 r0 r4; add r0 r0 r5; add r0 r0 r6; add r0 r0 r7; lds r9 10; add r0 r0 r9; ret
			main() frame 2
			29: ret`, 34, []api.Report{report("f", 11, 8, 1, 18, 18, 1), report("main", 2, 0, 0, 0, 0, 1)}},
		{"parameters that nobody wants", "func main() { f(1, true, nil); } func f(a int, b bool, c []int) { for b { a = a + 1; } }",
			"main() frame 2\n0: ldi r0 1; ldi r1 1; ldi r2 0; call f; ret\nf(3) frame 2\n5: bz r1 7; jmp 5; ret", 19, []api.Report{report("main", 2, 0, 0, 4, 4, 1), report("f", 2, 0, 0, 3, 6, 4)}},
	}
}

func TestP2402Programs(t *testing.T) {
	for _, x := range programs() {
		p := compiled(t, x.text)
		want := sample.Code(x.code)
		if is := sample.TellCode(p.Code); is != sample.TellCode(want) || p.Code.Main != want.Main {
			t.Errorf("P2402: %s: Main %d\n%swant %d\n%s", x.what, p.Code.Main, is, want.Main, sample.TellCode(want))
		}
		if !slices.Equal(p.Reports, x.reports) || p.Nodes != x.nodes {
			t.Errorf("P2402: %s: %+v, %d nodes; want %+v, %d", x.what, p.Reports, p.Nodes, x.reports, x.nodes)
		}
	}
}

// TestP2402Order: a report for each function, in the order of the text, wherever main is.
func TestP2402Order(t *testing.T) {
	texts := []string{"func main() { f(1); }", "func f(a int) { g(); print(a); }", "func g() bool { return input() == 0; }", "func zero() {}"}
	reports := []api.Report{report("main", 2, 0, 0, 2, 2, 1), report("f", 3, 1, 0, 3, 3, 1), report("g", 2, 0, 0, 3, 3, 1), report("zero", 2, 0, 0, 0, 0, 1)}
	for _, order := range [][]int{{0, 1, 2, 3}, {3, 2, 1, 0}, {1, 0, 3, 2}, {2, 3, 0, 1}, {1, 2, 0, 3}} {
		var text strings.Builder
		var want []api.Report
		for _, i := range order {
			text.WriteString(texts[i] + "\n")
			want = append(want, reports[i])
		}
		p := compiled(t, text.String())
		if !slices.Equal(p.Reports, want) || p.Code.Main != slices.Index(order, 0) || len(p.Code.Funcs) != 4 || p.Nodes != 20 {
			t.Errorf("P2402: Main %d, %d nodes, %+v; want %+v", p.Code.Main, p.Nodes, p.Reports, want)
		}
	}
}
