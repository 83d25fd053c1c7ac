package compile_test

import (
	"slices"
	"testing"

	"quern/api"
	"quern/r16"
	"quern/sample"
	"quern/sem"
)

// enough is as much stack and heap as there may be.
var enough = api.Limits{Stack: api.MaxStack, Heap: api.MaxHeap}

// runs are the runs of a text, as it means and as its code, on one input.
type runs struct {
	testing.TB
	text    string
	tree    api.Tree
	program api.Program
	input   []int
}

func runsOf(t testing.TB, text string, input []int) runs {
	t.Helper()
	tree, _ := refusalOf([]byte(text))
	return runs{t, text, tree, compiled(t, text), input}
}

func (r runs) ofText(steps int) api.Outcome {
	m, e := sem.New(r.tree, r.input)
	if e != api.OK {
		r.Fatalf("sem.New: %v", e)
	}
	o, _ := m.Run(steps)
	return o
}

func (r runs) ofCode(limits api.Limits, steps int) api.Outcome {
	m, e := r16.New(r.program.Code, r.input, limits)
	if e != api.OK {
		r.Fatalf("r16.New: %v", e)
	}
	o, _ := m.Run(steps)
	return o
}

func begins(long, short api.Outcome) bool {
	return len(short.Events) <= len(long.Events) && slices.Equal(short.Events, long.Events[:len(short.Events)])
}

func sameEnd(a, b api.Outcome) bool {
	return a.End == b.End && a.Kind == b.Kind && a.Value == b.Value && slices.Equal(a.Events, b.Events)
}

// ended tells whether a run has ended by what the program does: not for want of room.
func ended(o api.Outcome) bool {
	return o.End == api.Exit || o.End == api.Panic && o.Kind < api.PanicStack
}

// holdOnly is W1 at so many steps of the code; it tells the code's outcome.
func (r runs) holdOnly(limits api.Limits, steps int) api.Outcome {
	r.Helper()
	code := r.ofCode(limits, steps)
	means := r.ofText((steps + 1) * (4*r.program.Nodes + 4))
	if code.End == api.Stuck || !begins(means, code) || ended(code) && !sameEnd(means, code) {
		r.Fatalf("W1: %+v: %s\nin %d steps, but it means %s:\n%s", limits, sample.Told(code), steps, sample.Told(means), r.text)
	}
	return code
}

// frame is the greatest one that is reported.
func (r runs) frame() int {
	most := 0
	for _, x := range r.program.Reports {
		most = max(most, x.Frame)
	}
	return most
}

// holdAll is W2 at so many steps of the text; it tells what these do.
func (r runs) holdAll(steps, stack, heap int) api.Outcome {
	r.Helper()
	means := r.ofText(steps)
	limits := api.Limits{Stack: means.Depth*r.frame() + stack, Heap: min(means.Words+heap, api.MaxHeap)}
	if means.Words > api.MaxHeap {
		return means
	}
	code := r.ofCode(limits, (steps+1)*(2*len(r.program.Code.Ins)+2))
	fits := begins(code, means)
	if means.End != api.Running {
		fits = sameEnd(code, means) && code.Words == means.Words && code.Depth == means.Depth
	}
	if !fits {
		r.Fatalf("W2: %+v: %s\nbut it means, in %d steps, %s:\n%s", limits, sample.Told(code), steps, sample.Told(means), r.text)
	}
	return means
}

// holdFrames is W5 of a run that ends by what the program does: as many words as the greatest frame times its depth are enough, fewer than two for each frame are not.
func (r runs) holdFrames() {
	r.Helper()
	all := r.ofCode(enough, 1000000)
	if !ended(all) {
		r.Fatalf("W5: %s:\n%s", sample.Told(all), r.text)
	}
	for _, more := range []int{0, 1, 1000} {
		if o := r.ofCode(api.Limits{Stack: all.Depth*r.frame() + more, Heap: all.Words}, 1000000); sample.Told(o) != sample.Told(all) {
			r.Errorf("W5: %s; with enough stack %s:\n%s", sample.Told(o), sample.Told(all), r.text)
		}
	}
	if o := r.ofCode(api.Limits{Stack: 2*all.Depth - 1, Heap: all.Words}, 1000000); o.End != api.Panic || o.Kind != api.PanicStack {
		r.Errorf("W5: %s with fewer words than two for each frame:\n%s", sample.Told(o), r.text)
	}
}

// TestRuns runs programs to their ends.
func TestRuns(t *testing.T) {
	for _, x := range []struct {
		text  string
		input []int
		want  string // of the code's run: its events and ending
		depth int
		words int
	}{
		{"func main() {}", nil, "exit", 1, 0},
		{"func main() { print(input() + 1); }", []int{4}, "5 exit", 1, 0},
		{"func main() { print(input() + 1); }", nil, "panic input", 1, 0},
		{"func fib(n int) int { if n < 2 { return n; } return fib(n - 1) + fib(n - 2); } func main() { var i int; for i < 12 { print(fib(i)); i = i + 1; } }",
			nil, "0 1 1 2 3 5 8 13 21 34 55 89 exit", 12, 0},
		{"func main() { var a int = input(); var b int = input(); for b != 0 { var c int = a % b; a = b; b = c; } print(a); }", []int{1071, 462}, "21 exit", 1, 0},
		{`func main() { var n int = 30; var a []int = make([]int, n); var i int = 2;
			for i < n { if a[i] == 0 { print(i); var k int = i * i; for k < n { a[k] = 1; k = k + i; } } i = i + 1; } }`, nil, "2 3 5 7 11 13 17 19 23 29 exit", 1, 31},
		{`func sort(a []int) { var i int = 1; for i < len(a) { var k int = i; for k > 0 && a[k - 1] > a[k] { var x int = a[k]; a[k] = a[k - 1]; a[k - 1] = x; k = k - 1; } i = i + 1; } }
			func main() { var a []int = make([]int, 6); var i int; for i < 6 { a[i] = input(); i = i + 1; } sort(a); i = 0; for i < len(a) { print(a[i]); i = i + 1; } panic(i); }`,
			[]int{5, -2, 9, 0, 5, 1}, "-2 0 1 5 5 9 panic user 6", 2, 7},
		{"func main() { var a int = 1; var b int = 2; var i int; for i < 5 { var c int = a; a = b; b = c; i = i + 1; } print(a); print(b); }", nil, "2 1 exit", 1, 0},
		{"func even(n int) bool { if n == 0 { return true; } return odd(n - 1); } func odd(n int) bool { if n == 0 { return false; } return even(n - 1); } func main() { print(even(input())); print(odd(20)); }", []int{31}, "false false exit", 33, 0},
		{"func main() { print(9223372036854775807 + 1); print(-9223372036854775807 - 1 == 1 << 63); print((1 << 63) / -1); print((1 << 63) % -1); print(-7 / 2); print(-7 % 2); print(-1 >> 70); print(1 << 64); print(6 &^ 3); print(^6); }",
			nil, "-9223372036854775808 true -9223372036854775808 0 -3 -1 -1 0 4 -7 exit", 1, 0},
		{"func main() { print(1 / input()); }", []int{0}, "panic divide", 1, 0},
		{"func main() { print(1 % input()); }", []int{0}, "panic divide", 1, 0},
		{"func main() { var a int = 1 / input(); }", []int{0}, "panic divide", 1, 0},
		{"func main() { print(1 << input()); }", []int{-1}, "panic shift", 1, 0},
		{"func main() { var a []int = make([]int, input()); print(7); }", []int{-1}, "panic make", 1, 0},
		{"func main() { var a []int; print(len(a)); print(a[0]); }", nil, "0 panic index", 1, 0},
		{"func main() { var a []int = make([]int, 2); a[input()] = input(); }", []int{2, 5}, "panic index", 1, 3},
		{"func main() { var a []int = make([]int, 2); a[input()] = input(); }", []int{2}, "panic input", 1, 3},
		{"func f(a int) int { print(a); return a; } func main() { var a []int = make([]int, 9); a[f(1)] = f(2) + f(3) * f(4); print(a[f(1)]); print(f(0) == 1 && f(5) == 5 || f(6) == 6); }", nil, "1 2 3 4 1 14 0 6 true exit", 2, 10},
		{"func main() { if input() > 0 { main(); print(1); return; } print(0); }", []int{1, 2, 3, 0}, "0 1 1 1 exit", 4, 0},
		{"func p(a int, b int, c int, d int, e int, f int, g int, h int) int { if a == 0 { return b + c * 10 + d * 100 + e * 1000 + f * 10000 + g * 100000 + h * 1000000; } print(h); return q(h, g, a - 1, f, e, d, c, b); }" +
			"func q(a int, b int, c int, d int, e int, f int, g int, h int) int { return p(c, a, b, d, e, f, h, g); } func main() { print(p(2, 1, 2, 3, 4, 5, 6, 7)); }", nil, "7 2 6754312 exit", 6, 0},
	} {
		r := runsOf(t, x.text, x.input)
		o := r.ofCode(enough, 100000)
		told := ""
		if events := sample.Told(api.Outcome{Events: o.Events}); len(o.Events) > 0 {
			told = events[:len(events)-len("running 0 0 0")]
		}
		if told += sample.Ending(o); told != x.want || o.Depth != x.depth || o.Words != x.words {
			t.Errorf("W1, W2: %s, depth %d, words %d; want %s, %d, %d:\n%s", told, o.Depth, o.Words, x.want, x.depth, x.words, x.text)
		}
		for _, steps := range []int{0, 1, 2, 3, 10, 30, 100, 20000} {
			r.holdOnly(enough, steps)
			r.holdOnly(api.Limits{Stack: steps, Heap: steps / 3}, steps)
			r.holdAll(steps, 0, 0)
			r.holdAll(steps, 5, 7)
		}
		r.holdFrames()
	}
}

// TestFrames: W5: each activation takes just the words of its frame, as it is reported.
func TestFrames(t *testing.T) {
	const main = " func main() { down(input()); }"
	const many = "var a int = input(); var b int = input(); var c int = input(); var d int = input(); var e int = input(); var f int = input(); var g int = input(); var h int = input(); var i int = input(); var j int = input(); "
	const sum = "print(a + b + c + d + e + f + g + h + i + j); "
	for _, x := range []struct {
		what, text    string
		saves, spills int // of down
	}{
		{"no words but the two", "func down(n int) { if n > 0 { down(n - 1); } }" + main, 0, 0},
		{"main last or first", "func main() { down(input()); } func down(n int) { if n > 0 { down(n - 1); } }", 0, 0},
		{"one saved", "func down(n int) { if n > 0 { down(n - 1); print(n); } }" + main, 1, 0},
		{"two saved", "func down(n int) int { if n > 0 { var a int = n * n; var b int = down(n - 1); return a + n + b; } return 0; }" + main[:14] + "print(down(input())); }", 2, 0},
		{"spills alone", "func down(n int) { " + many + sum + "if n > 0 { down(n - 1); } }" + main, 0, 3},
		{"saved and spills: g to j, as n and what it is compared with want registers, too", "func down(n int) { " + many + "if n > 0 { down(n - 1); " + sum + "} }" + main, 6, 4},
	} {
		r := runsOf(t, x.text, make([]int, 10000))
		place := 1 - r.program.Code.Main
		if is, want := r.program.Reports[place], (api.Report{Name: "down", Frame: 2 + x.saves + x.spills, Saves: x.saves, Spills: x.spills}); is.Frame != want.Frame || is.Saves != want.Saves || is.Spills != want.Spills {
			t.Errorf("P2402, W5: %s: %+v, want %+v", x.what, is, want)
		}
		for depth := range 20 {
			r.input[0] = depth
			words := r.program.Reports[r.program.Code.Main].Frame + (depth+1)*r.program.Reports[place].Frame
			if o := r.ofCode(api.Limits{Stack: words}, 1000000); o.End != api.Exit || o.Depth != depth+2 {
				t.Errorf("W5: %s: %d deep in %d words: %s", x.what, depth+2, words, sample.Told(o))
			}
			if o := r.ofCode(api.Limits{Stack: words - 1}, 1000000); o.End != api.Panic || o.Kind != api.PanicStack || o.Depth != depth+1 {
				t.Errorf("W5: %s: %d deep in %d words: %s", x.what, depth+2, words-1, sample.Told(o))
			}
			r.holdFrames()
		}
	}
}

// TestFullFrames: W5, where eight are saved and one is spilt.
func TestFullFrames(t *testing.T) {
	r := runsOf(t, "func down(a int, b int, c int, d int, e int, f int, g int, h int) { var i int = input(); down(a, b, c, d, e, f, g, h); print(a + b + c + d + e + f + g + h + i); } func main() { down(1, 2, 3, 4, 5, 6, 7, 8); }", nil)
	if is := r.program.Reports[0]; is.Frame != 11 || is.Saves != 8 || is.Spills != 1 {
		t.Fatalf("P2402, W5: %+v", is)
	}
	for depth := range 20 {
		r.input = make([]int, depth)
		words := 2 + (depth+1)*11
		if o := r.ofCode(api.Limits{Stack: words}, 1000000); o.Kind != api.PanicInput || o.Depth != depth+2 {
			t.Errorf("W5: %d deep in %d words: %s", depth+2, words, sample.Told(o))
		}
		if o := r.ofCode(api.Limits{Stack: words - 1}, 1000000); o.Kind != api.PanicStack || o.Depth != depth+1 {
			t.Errorf("W5: %d deep in %d words: %s", depth+2, words-1, sample.Told(o))
		}
		r.holdFrames()
	}
}

// TestHeaps: arrays take just the words that they mean; where there are fewer, the run ends with what was told until then.
func TestHeaps(t *testing.T) {
	r := runsOf(t, "func main() { var i int; for { var a []int = make([]int, input()); a[i] = i; print(len(a)); i = i + 1; } }", []int{3, 2, 5, 4, 0})
	for heap := range 30 {
		o := r.holdOnly(api.Limits{Stack: 100, Heap: heap}, 1000)
		words, events := 0, 0
		for _, n := range r.input {
			if words+n+1 > heap {
				break
			}
			words += n + 1
			events++
		}
		want := api.Outcome{End: api.Panic, Kind: api.PanicHeap}
		if events == len(r.input) { // the last one is empty
			events--
			want.Kind = api.PanicIndex
		}
		if o.End != want.End || o.Kind != want.Kind || o.Words != words || len(o.Events) != events {
			t.Errorf("W1: %d words: %s", heap, sample.Told(o))
		}
	}
	r.holdAll(10000, 0, 0)
}

// TestEndless: runs that go on for ever, with events and without, ever deeper, and taking ever more.
func TestEndless(t *testing.T) {
	for _, text := range []string{
		"func main() { for { } }", "func main() { var i int; for { print(i); i = i + 1; } }", "func main() { print(1); main(); }", "func f(n int) { print(n); f(n + 1); print(n); } func main() { f(0); }",
		"func main() { for { print(len(make([]int, 7))); } }", "func main() { for true { if input() == 0 { continue; } break; } }",
	} {
		r := runsOf(t, text, make([]int, 100000))
		for _, steps := range []int{0, 1, 7, 50, 400, 3000} {
			r.holdOnly(enough, steps)
			r.holdOnly(api.Limits{Stack: 40, Heap: 70}, steps)
			r.holdAll(steps, 0, 0)
		}
	}
}

// TestDrawnRuns draws programs, inputs, limits and steps.
func TestDrawnRuns(t *testing.T) {
	t.Parallel()
	d, c := sample.Dice(1234567), counts{}
	for i := range 1500 {
		r := runsOf(t, sample.DrawText(&d, 3+d.Below(40), i%2 == 0), d.Input())
		o := r.holdOnly(api.Limits{Stack: d.Below(40), Heap: d.Below(20)}, d.Below(150))
		c.add([]string{"running", "exit", "panic"}[o.End], true)
		c.add("no stack", o.Kind == api.PanicStack)
		c.add("no heap", o.Kind == api.PanicHeap)
		r.holdOnly(enough, d.Below(150))
		for _, steps := range []int{d.Below(30), d.Below(300)} {
			o = r.holdAll(steps, d.Below(2)*d.Below(9), d.Below(2)*d.Below(9))
			c.add([]string{"it means: running", "it means: exit", "it means: panic"}[o.End], true)
			c.add("deep", o.Depth > 2)
			c.add("words", o.Words > 0)
			c.add("events", len(o.Events) > 3)
		}
		if o.End != api.Running && o.Words <= api.MaxHeap {
			r.holdFrames()
		}
	}
	c.hold(t, 30, "running", "exit", "panic", "no stack", "no heap", "it means: running", "it means: exit", "it means: panic", "deep", "words", "events")
}
