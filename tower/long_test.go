package tower_test

import (
	"runtime/debug"
	"strconv"
	"strings"
	"testing"

	"quern/api"
	"quern/sample"
)

// shallow lets no call be deep until what it answers is called.
func shallow() func() {
	was := debug.SetMaxStack(1 << 18)
	return func() { debug.SetMaxStack(was) }
}

// filled is a text of api.MaxSource bytes at most, full of one part.
func filled(ahead, part, behind string) string {
	return ahead + strings.Repeat(part, (api.MaxSource-len(ahead)-len(behind))/len(part)) + behind
}

// TestLongTexts: texts as long as they may be, deep or wide.
func TestLongTexts(t *testing.T) {
	defer shallow()()
	var functions strings.Builder
	for i := 0; functions.Len() < api.MaxSource-100; i++ {
		functions.WriteString("func f" + strconv.Itoa(i) + "(a int) { main(); print(a); } ")
	}
	for _, x := range []struct{ what, text string }{
		{"statements that are never done", filled("func main() { print(7); ", "return;", "}")},
		{"sets", filled("func main() { var a int = 7; print(a); ", "a = a;", "}")},
		{"a comment", filled("func main() { print(7); } //", "/", "")},
		{"functions", "func main() { print(7); } " + functions.String()},
		{"loops in one another", "func main() { print(7); } func f(b bool) { " + strings.Repeat("for b {", 190) + strings.Repeat("}", 190) + "}"},
		{"inputs that are spilt", "func main() { print(7); } func f() { " + many(5000, "var v# int = input(); ") + many(5000, "print(v#); ") + "}"},
	} {
		t.Run(x.what, func(t *testing.T) {
			s := script(x.text, nil, 6000, 0, 30)
			for level, o := range ran(t, s) {
				if len(o.Events) != 1 || o.Events[0].Value != 7 || o.End == api.Panic {
					t.Errorf("P2502: level %d: %s", level, sample.Told(o))
				}
			}
			holds(t, s)
		})
	}
}

// many is a part with each of so many numbers in it.
func many(n int, part string) string {
	var b strings.Builder
	for i := range n {
		b.WriteString(strings.ReplaceAll(part, "#", strconv.Itoa(i)))
	}
	return b.String()
}

// TestLongRuns: runs that rest, go very deep, take all that there is, or ask for very much input.
func TestLongRuns(t *testing.T) {
	defer shallow()()
	input := make([]int, api.MaxInput)
	for _, x := range []struct {
		what        string
		s           api.Script
		events, end int
		kind, depth int // at all levels
	}{
		{"events: all levels rest", script("func main() { for { print(1); } }", nil, 2, 0, 1<<24), api.MaxEvents, api.Running, 0, 1},
		{"calls", script("func f(n int) { if n > 0 { f(n - 1); } } func main() { f(20000); print(1); }", nil, api.MaxStack, 0, 1<<20), 1, api.Exit, 0, 20002},
		{"arrays", script("func main() { for { var a []int = make([]int, 1 << 30); a[1 << 29] = input(); } }", input[:500], 9, api.MaxHeap, 1<<20), 0, api.Panic, api.PanicInput, 1},
		{"input", script("func main() { for { if input() > 0 { print(1); } } }", input, 9, 0, 1<<24), 0, api.Panic, api.PanicInput, 1},
	} {
		t.Run(x.what, func(t *testing.T) {
			list := ran(t, x.s)
			for level, o := range list {
				if len(o.Events) != x.events || o.End != x.end || o.Kind != x.kind || o.Depth != x.depth || o.Words != list[0].Words {
					t.Errorf("P2502, W4: level %d: %d events, %s, words %d, depth %d", level, len(o.Events), sample.Ending(o), o.Words, o.Depth)
				}
			}
			holds(t, x.s)
		})
	}
}
