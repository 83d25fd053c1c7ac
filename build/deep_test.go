package build_test

import (
	"strconv"
	"strings"
	"testing"

	"quern/api"
)

// TestDeepTrees builds what nests deep: how many values and blocks there are tells that all of it was built.
func TestDeepTrees(t *testing.T) {
	const deep = 20000
	for _, x := range []struct {
		open, middle, shut string
		values, blocks     int
	}{
		{strings.Repeat("{", 2*deep), "print(1);", strings.Repeat("}", 2*deep), 2, 1},
		{"print(" + strings.Repeat("-", 2*deep), "1", ");", 2*deep + 2, 1},
		{"print(" + strings.Repeat("!", 2*deep), "true", ");", 2*deep + 2, 1},
		{"print(" + strings.Repeat("(", 2*deep), "1", strings.Repeat(")", 2*deep) + ");", 2, 1},
		{"print(" + strings.Repeat("1 + (", deep), "1", strings.Repeat(")", deep) + ");", 2*deep + 2, 1},
		{"print(1", strings.Repeat(" + 1", deep), ");", 2*deep + 2, 1},
		{"print(" + strings.Repeat("f(", deep), "1", strings.Repeat(", true)", deep) + ");", 2*deep + 2, 1},
		{"var a []int; print(" + strings.Repeat("a[", deep), "1", strings.Repeat("]", deep) + ");", 3*deep + 3, 1},
		{"var a []int; a[" + strings.Repeat("len(make([]int, ", deep/2), "1", strings.Repeat("))", deep/2) + "] = 1;", 3*deep/2 + 6, 1},
		{strings.Repeat("{ var a int = 1;", deep), "print(a);", strings.Repeat("}", deep), deep + 1, 1},
		{"var a int; " + strings.Repeat("{ var a int = a;", deep), "print(a);", strings.Repeat("}", deep), 2, 1},
		{"var b bool; " + strings.Repeat("if b {", 511), "print(1);", strings.Repeat("}", 511), 3, 1023},
		{"var b bool; " + strings.Repeat("if b { } else ", 340), "{ print(1); }", "", 3, 1021},
		{"var b bool; " + strings.Repeat("for b {", 341), "print(b);", strings.Repeat("}", 341), 2, 1024},
		{strings.Repeat("for {", 511), "return;", strings.Repeat("}", 511), 0, 1023},
		{"print(" + strings.Repeat("h() && (", 511), "h()", strings.Repeat(")", 511) + ");", 512 + 511 + 1, 1023},
		{"print(h()" + strings.Repeat(" || h()", 511), "", ");", 512 + 511 + 1, 1023},
		{"return; " + strings.Repeat("{", deep) + strings.Repeat("if true && true {", deep), "", strings.Repeat("}", 2*deep), 0, 1},
	} {
		f := built(t, read(t, "func main() { "+x.open+x.middle+x.shut+" }"+helpers)).Funcs[0]
		if len(f.Values) != x.values || len(f.Blocks) != x.blocks {
			t.Errorf("%.60s..: %d values and %d blocks, want %d and %d", x.open+x.middle, len(f.Values), len(f.Blocks), x.values, x.blocks)
		}
	}
}

// TestDeepFaults has trees that nest far beyond what can be built.
func TestDeepFaults(t *testing.T) {
	const deep = 1 << 15
	for _, x := range []struct {
		open, middle, shut string
		why                api.Errno
	}{
		{strings.Repeat("if true {", deep), "", strings.Repeat("}", deep), api.ErrBuildBlocks},
		{strings.Repeat("if true { } else ", deep), "{ }", "", api.ErrBuildBlocks},
		{strings.Repeat("for {", deep), "", strings.Repeat("}", deep), api.ErrBuildBlocks},
		{strings.Repeat("for true {", deep), "", strings.Repeat("}", deep), api.ErrBuildBlocks},
		{"print(" + strings.Repeat("true && (", deep), "true", strings.Repeat(")", deep) + ");", api.ErrBuildBlocks},
		{"print(true" + strings.Repeat(" || true", deep), "", ");", api.ErrBuildBlocks},
		{"print(" + strings.Repeat("-", 2*deep-2), "1", ");", api.ErrBuildValues},
		{"print(" + strings.Repeat("1 + (", deep), "1", strings.Repeat(")", deep) + ");", api.ErrBuildValues},
	} {
		holdError(t, x.open[:20], read(t, "func main() { "+x.open+x.middle+x.shut+" print(1); print(1); }"), 0, x.why)
	}
}

// names writes a text for each of so many variables.
func names(n int, text func(name, next string) string) string {
	var b strings.Builder
	for i := range n {
		b.WriteString(text("v"+strconv.Itoa(i), "v"+strconv.Itoa(i+1)))
	}
	return b.String()
}

// TestP1109LongChains: each Phi is trivial only when the next one has been taken away, and only the last one is at first.
func TestP1109LongChains(t *testing.T) {
	const n = 16000
	text := "func main() { var v0 int = input(); " +
		names(n, func(name, next string) string { return "var " + next + " int = " + name + ";" }) +
		"for true { " + names(n, func(name, next string) string { return name + " = " + next + ";" }) + "} print(v0); }"
	x := read(t, text)
	f := built(t, x).Funcs[0]
	const want = `0: v0 Input int, jump 1
1 of 0 2: v1 Const 1 bool, branch v1 2 3
2 of 1: jump 1
3 of 1: v2 PrintInt v0, return`
	if got := told(f); got != want {
		t.Errorf("%.300s\nwant\n%s", got, want)
	}
	holdCount(t, x, 3+3*n+3) // v0 too, which is asked behind the loop
	// With another number at the end none is trivial, but for that of the last variable, which is asked and not set.
	text = strings.Replace(text, "for true {", "v"+strconv.Itoa(n)+" = 7; for true {", 1)
	if f := built(t, read(t, text)).Funcs[0]; len(f.Blocks[1].Phis) != n || len(f.Values) != 4+n {
		t.Errorf("%d Phis and %d values", len(f.Blocks[1].Phis), len(f.Values))
	}
}

// TestP1108FarAway asks variables through as many blocks as there can be.
func TestP1108FarAway(t *testing.T) {
	for _, x := range []struct {
		what, each           string
		times, values, count int
	}{
		// A block of one way behind the other.
		{"returns", "if b { return; }", 511, 4, 2 + 2},
		// Joins and heads, each of which has a Phi for a and for b.
		{"joins", "if b { }", 511, 4, 2 + 3*511 + 3*511 + 2},
		{"heads", "for b { }", 341, 4, 2 + 3*341 + 3*341 + 2},
	} {
		r := read(t, "func main() { var a int = input(); var b bool = h(); "+strings.Repeat(x.each, x.times)+" print(a); print(b); }"+helpers)
		if f := built(t, r).Funcs[0]; len(f.Values) != x.values {
			t.Errorf("%s: %d values, want %d", x.what, len(f.Values), x.values)
		}
		holdCount(t, r, x.count)
	}
	// Many variables, each of which comes from far.
	const n = 20000
	text := "func main() { var b bool = h(); var v0 int = input(); " +
		names(n, func(name, next string) string { return "var " + next + " int = " + name + ";" }) +
		strings.Repeat("if b { return; }", 511) +
		names(n, func(name, next string) string { return name + " = " + next + ";" }) + "print(v0); }" + helpers
	if f := built(t, read(t, text)).Funcs[0]; len(f.Values) != 3 {
		t.Errorf("%d values", len(f.Values))
	}
}

// TestP1108ManySets: what sets variables to others makes no values, however much there is of it.
func TestP1108ManySets(t *testing.T) {
	text := "func main() { var a int = input(); var b int = a; for a < 3 { " + strings.Repeat("b = a; a = b;", 200000) + " } print(b); }"
	if f := built(t, read(t, text)).Funcs[0]; len(f.Values) != 4 {
		t.Errorf("%d values", len(f.Values))
	}
}
