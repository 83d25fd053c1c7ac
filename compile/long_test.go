package compile_test

import (
	"runtime"
	"runtime/debug"
	"slices"
	"strconv"
	"strings"
	"testing"

	"quern/api"
	"quern/compile"
)

// shallow lets no call be deep until what it answers is called.
func shallow() func() {
	was := debug.SetMaxStack(1 << 18)
	return func() { debug.SetMaxStack(was) }
}

// filled is a text of api.MaxSource bytes at most, full of one part.
func filled(ahead, part, behind string) string {
	return ahead + strings.Repeat(part, (api.MaxSource-len(ahead)-len(behind))/len(part)) + behind
}

// many are functions, one behind the other, as many as fit.
func many(function func(i int) string) string {
	var b strings.Builder
	b.WriteString("func main() {} ")
	for i := 0; ; i++ {
		f := function(i)
		if b.Len()+len(f) > api.MaxSource {
			return b.String()
		}
		b.WriteString(f)
	}
}

// TestLongTexts: as long as they may be, deep or wide.
func TestLongTexts(t *testing.T) {
	defer shallow()()
	const max = api.MaxSource
	half := func(ahead, open, middle, shut, behind string) string {
		n := (max - len(ahead+middle+behind)) / len(open+shut)
		return ahead + strings.Repeat(open, n) + middle + strings.Repeat(shut, n) + behind
	}
	for _, x := range []struct {
		what, text string
		fault      api.Fault
	}{
		{"blocks", half("func main() {", "{", "", "}", "}"), api.Fault{Class: 4, What: 1}},
		{"blocks that do not end", filled("func main() ", "{", ""), api.Fault{Class: 2, At: max, What: 41}},
		{"blocks that end too often", filled("func main() {", "}", ""), api.Fault{Class: 2, At: 14, What: 40}},
		{"parentheses", half("func main() { print(", "(", "1", ")", "); }"), api.Fault{Class: 4, What: 1}},
		{"indices", half("func main() { var a []int; print(", "a[", "1", "]", "); }"), api.Fault{Class: 4, What: 1}},
		{"signs", filled("func main() { print(", "-", "1); }"), api.Fault{Class: 4, What: 1}},
		{"signs of a bool", filled("func main() { print(", "!", "1); }"), api.Fault{Class: 3, At: len(filled("func main() { print(", "!", "1); }")) - 5, What: 54}},
		{"ifs behind else", filled("func main() { if true {} ", "else if true {} ", "}"), api.Fault{Class: 4, What: 1}},
		{"ifs in one another", half("func main() { ", "if true {", "", "}", "}"), api.Fault{Class: 4, What: 1}},
		{"a sum", filled("func main() { print(1", "+1", "); }"), api.Fault{Class: 4, What: 4}},
		{"a chain of &&", filled("func main() { print(true", "&&true", "); }"), api.Fault{Class: 4, What: 3}},
		{"arguments", filled("func main() { main(1", ",1", "); }"), api.Fault{Class: 3, At: 14, What: 55}},
		{"parameters", "func f(" + names(60000, func(v string) string { return v + " int, " }) + "last int) {} func main() {}", api.Fault{Class: 4, What: 2}},
		{"variables of one name", filled("func main() { var a int; ", "var a int;", "}"), api.Fault{Class: 3, At: 29, What: 50}},
		{"functions of one name", filled("", "func f() {}", "func main() {}"), api.Fault{Class: 3, At: 16, What: 50}},
		{"returns", filled("func main() { ", "return;", "}"), api.Fault{}},
		{"sets", filled("func main() { var a int; ", "a = a;", "}"), api.Fault{}},
		{"blanks", filled("func main() {", " ", "}"), api.Fault{}},
		{"a comment", filled("func main() {} //", "/", ""), api.Fault{}},
	} {
		t.Run(x.what, func(t *testing.T) {
			if x.fault != (api.Fault{}) {
				refused(t, x.text, x.fault.Class, x.fault.At, x.fault.What)
				return
			}
			if p := compiled(t, x.text); !slices.Equal(p.Code.Ins, []api.Ins{{Op: api.RRet}}) {
				t.Errorf("P2402: %d instructions", len(p.Code.Ins))
			}
		})
	}
}

// names writes a text for each of so many names.
func names(n int, text func(name string) string) string {
	var b strings.Builder
	for i := range n {
		b.WriteString(text("v" + strconv.Itoa(i)))
	}
	return b.String()
}

// TestLongPrograms: as much as a text may have of functions, blocks, values, registers.
func TestLongPrograms(t *testing.T) {
	defer shallow()()
	// Values go round in nested loops: each of their heads has a Phi for each of them, which is wanted.
	turning := func(name string, values, loops int) string {
		return "func " + name + "(b bool) { " + names(values, func(v string) string { return "var " + v + " int = input();" }) + strings.Repeat("for b {", loops) +
			"var t int = v0; " + names(values-1, func(v string) string { n, _ := strconv.Atoi(v[1:]); return v + " = v" + strconv.Itoa(n+1) + ";" }) + "v" + strconv.Itoa(values-1) + " = t;" +
			strings.Repeat("}", loops) + names(values, func(v string) string { return "print(" + v + ");" }) + "} "
	}
	for _, x := range []struct {
		what, text        string
		functions, frames int // frames: the greatest one
		least             int // how many instructions
	}{
		{"functions", many(func(i int) string { return "func f" + strconv.Itoa(i) + "() {}" }), 60000, 2, 60000},
		{"functions that call", many(func(i int) string { return "func f" + strconv.Itoa(i) + "(a int) { main(); print(a); }" }), 20000, 3, 100000},
		{"ifs", many(func(i int) string {
			return "func f" + strconv.Itoa(i) + "(b bool) {" + strings.Repeat("if b {}", 511) + "}"
		}), 290, 2, 290 * 511},
		{"loops", many(func(i int) string {
			return "func f" + strconv.Itoa(i) + "(b bool) {" + strings.Repeat("for b {}", 341) + "}"
		}), 370, 2, 370 * 341},
		{"loops in one another", many(func(i int) string {
			return "func f" + strconv.Itoa(i) + "(b bool) {" + strings.Repeat("for b {", 199) + strings.Repeat("}", 199) + "}"
		}), 600, 2, 600 * 199},
		{"spills", "func main() {" + names(20000, func(v string) string { return "var " + v + " int = input();" }) + names(20000, func(v string) string { return "print(" + v + ");" }) + "}", 1, 2 + 20000 - 8, 4*20000 - 16},
		{"values that go round", strings.Join([]string{turning("f0", 100, 190), turning("f1", 1000, 19), turning("f2", 10, 190), turning("main0", 3000, 3), "func main() { f0(true); }"}, ""), 5, 3000 - 8, 200000},
	} {
		t.Run(x.what, func(t *testing.T) {
			p := compiled(t, x.text)
			most := 0
			for _, r := range p.Reports {
				most = max(most, r.Frame)
			}
			if len(p.Reports) < x.functions || most < x.frames || len(p.Code.Ins) < x.least {
				t.Errorf("P2402: %d functions, frames up to %d, %d instructions; want at least %d, %d, %d", len(p.Reports), most, len(p.Code.Ins), x.functions, x.frames, x.least)
			}
		})
	}
}

// TestFarTooLong: a text that is too long is not looked at, whatever its length.
func TestFarTooLong(t *testing.T) {
	text := make([]byte, 1<<29)
	var before, after runtime.MemStats
	runtime.ReadMemStats(&before)
	p, f := compile.Compile(text)
	runtime.ReadMemStats(&after)
	if f != (api.Fault{Class: api.ClassLong, At: api.MaxSource}) || !nothing(p) {
		t.Errorf("P2401: %+v", f)
	}
	if taken := after.TotalAlloc - before.TotalAlloc; taken > 1<<20 {
		t.Errorf("P2401: %d bytes were taken", taken)
	}
}
