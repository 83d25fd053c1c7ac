package sem_test

import (
	"math"
	"runtime"
	"slices"
	"strconv"
	"strings"
	"testing"

	"quern/api"
	"quern/lex"
	"quern/parse"
	"quern/sem"
	"quern/types"
)

// read makes the tree of a text, with its types.
func read(t *testing.T, text string) api.Tree {
	t.Helper()
	typed, at, err := types.Types(parsed(t, text))
	if err != api.OK {
		t.Fatalf("%s: %v at %d", text, err, at)
	}
	return typed
}

// parsed makes the tree of a text, without types.
func parsed(t *testing.T, text string) api.Tree {
	t.Helper()
	tokens, _, err := lex.Tokens([]byte(text))
	x, _, at, no := parse.Parse(tokens, len(text))
	if err != api.OK || no != api.OK {
		t.Fatalf("%s: %v, %v at %d", text, err, no, at)
	}
	return x
}

func copyOf(t api.Tree) api.Tree {
	c := api.Tree{Nodes: slices.Clone(t.Nodes), Funcs: slices.Clone(t.Funcs)}
	for i := range c.Nodes {
		c.Nodes[i].Kids = slices.Clone(c.Nodes[i].Kids)
	}
	return c
}

func start(t *testing.T, x api.Tree, input []int) *sem.Machine {
	t.Helper()
	m, err := sem.New(x, input)
	if err != api.OK || m == nil {
		t.Fatalf("New: %v", err)
	}
	return m
}

// told is an outcome in words: its events; its ending; its steps, words and depth.
func told(o api.Outcome) string {
	var b strings.Builder
	for _, e := range o.Events {
		switch {
		case e.Kind == api.EventInt:
			b.WriteString(strconv.Itoa(e.Value))
		case e == api.Event{Kind: api.EventBool, Value: 0}:
			b.WriteString("false")
		case e == api.Event{Kind: api.EventBool, Value: 1}:
			b.WriteString("true")
		default:
			b.WriteString("?")
		}
		b.WriteString(" ")
	}
	b.WriteString([]string{"running", "exit", "panic", "stuck"}[o.End])
	if o.End != api.Running && o.End != api.Exit || o.Kind != 0 || o.Value != 0 {
		b.WriteString([]string{" none", " divide", " index", " shift", " make", " input", " user", " stack", " heap"}[o.Kind])
		b.WriteString(" " + strconv.Itoa(o.Value))
	}
	for _, n := range []int{o.Steps, o.Words, o.Depth} {
		b.WriteString(" " + strconv.Itoa(n))
	}
	return b.String()
}

// row is a text with its input, and what its run tells.
type row struct {
	text  string
	input []int
	want  string
}

// holdRows runs each text at once, step by step, in two pieces at every place, and with fuel for no more than it needs.
func holdRows(t *testing.T, rows []row) {
	t.Helper()
	for _, r := range rows {
		x := read(t, r.text)
		o, err := start(t, x, r.input).Run(100000)
		if err != api.OK || told(o) != r.want {
			t.Errorf("%s %v:\n%s %v, want\n%s", r.text, r.input, told(o), err, r.want)
			continue
		}
		single := start(t, x, r.input)
		for steps := range o.Steps {
			if s := single.Outcome(); s.End != api.Running || s.Steps != steps || !single.Step() {
				t.Errorf("%s: %s at the step %d", r.text, told(s), steps)
			}
		}
		if single.Step() || told(single.Outcome()) != r.want {
			t.Errorf("%s, step by step: %s, want %s", r.text, told(single.Outcome()), r.want)
		}
		for first := range o.Steps + 2 {
			m := start(t, x, r.input)
			m.Run(first)
			if p, _ := m.Run(max(0, o.Steps-first)); told(p) != r.want {
				t.Errorf("%s, %d steps and the others: %s, want %s", r.text, first, told(p), r.want)
			}
		}
	}
}

// inMain are rows whose texts stand in main.
func inMain(rows []row) []row {
	for i := range rows {
		rows[i].text = "func main() { " + rows[i].text + " }"
	}
	return rows
}

func TestExamples(t *testing.T) {
	const array = "func main() { var a []int = make([]int, 2); a[1] = input(); print(a[1]); }"
	holdRows(t, []row{
		{"func main() {}", nil, "exit 2 0 1"},
		{"func main() { for false {} print(1); }", nil, "1 exit 8 0 1"},
		{"func main() { panic(7); }", nil, "panic user 7 4 0 1"},
		{"func f(a int) int { return a; } func main() { print(f(3)); }", nil, "3 exit 10 0 2"},
		{array, []int{5}, "5 exit 15 3 1"},
		{array, nil, "panic input 0 8 3 1"},
		{"func main() { print(false && 1 / 0 == 0); }", nil, "false exit 6 0 1"},
	})
	m := start(t, read(t, "func main() { print(1); print(1 / 0); }"), nil)
	if o, err := m.Run(4); err != api.OK || told(o) != "1 running 4 0 1" {
		t.Errorf("Run(4): %s %v", told(o), err)
	}
}

func holdRefused(t *testing.T, x api.Tree, input []int, want api.Errno) {
	t.Helper()
	if m, err := sem.New(x, input); m != nil || err != want {
		t.Errorf("New: %v, want %v", err, want)
	}
}

func TestP701Beginning(t *testing.T) {
	m := start(t, read(t, "func f() {} func main() { print(1); f(); }"), []int{1, 2})
	for range 3 {
		if o := m.Outcome(); told(o) != "running 0 0 0" {
			t.Errorf("ahead of any step: %s", told(o))
		}
		if o, err := m.Run(0); err != api.OK || told(o) != "running 0 0 0" {
			t.Errorf("Run(0): %s %v", told(o), err)
		}
	}
}

func TestP701NoTree(t *testing.T) {
	x := read(t, "func main() { var x int = 1 + 2; print(x); }")
	long := make([]int, api.MaxInput+1)
	var wrong []api.Tree
	turned := func(turn func(y *api.Tree)) {
		y := copyOf(x)
		turn(&y)
		wrong = append(wrong, y)
	}
	turned(func(y *api.Tree) { y.Funcs = nil })
	turned(func(y *api.Tree) { y.Funcs = append(y.Funcs, y.Funcs[0]) })
	turned(func(y *api.Tree) { y.Nodes = y.Nodes[1:] })
	turned(func(y *api.Tree) { y.Nodes[0].Kind = 0 })
	turned(func(y *api.Tree) { y.Nodes[0].Value = -1 })
	turned(func(y *api.Tree) { y.Nodes[0].Type = 4 })
	turned(func(y *api.Tree) { y.Nodes[0].Type = -1 })
	turned(func(y *api.Tree) { y.Nodes[2].Kids = []int{1, 0} })
	turned(func(y *api.Tree) { y.Nodes[3].Type = api.TypeInt })
	turned(func(y *api.Tree) { y.Nodes[3].Name = "if" })
	turned(func(y *api.Tree) { y.Nodes = append(y.Nodes, api.Node{Kind: api.NodeNum, Type: api.TypeInt}) })
	wrong = append(wrong, api.Tree{}, api.Tree{Nodes: []api.Node{}, Funcs: []int{}}, api.Tree{Funcs: []int{0}})
	for _, y := range wrong {
		holdRefused(t, y, nil, api.ErrSemTree)
		holdRefused(t, y, long, api.ErrSemTree)
	}
}

func TestP701NoTypes(t *testing.T) {
	long := make([]int, api.MaxInput+1)
	for _, text := range []string{
		"", "func f() {}", "func main(a int) {}", "func main() int { return 1; }", "func main() {} func main() {}",
		"func main() { x = 1; }", "func main() { var x int; x(); }", "func main() { f = 1; } func f() {}",
		"func main() { print(1 + true); }", "func main() { print(nil); }", "func f() {} func main() { f(1); }",
		"func f() {} func main() { print(f()); }", "func main() { return 1; }", "func main() { break; }",
		"func f() int {} func main() {}", "func main() { var x int; var x int; }", "func main() { var main int; main(); }",
	} {
		holdRefused(t, parsed(t, text), nil, api.ErrSemTree)
		holdRefused(t, parsed(t, text), long, api.ErrSemTree)
	}
}

// everything has a node of every kind, and expressions of every type.
const everything = `func f(a int, b bool, c []int) []int { if b { return c; } else if a > 1 { return nil; } else { } return make([]int, -a); }
func g() { return; }
func main() { var a []int; a = f(1, true, make([]int, 2)); a[0] = len(a) + 1; g(); f(0, false, nil); { print(a[0]); }
	var i int = input(); for !(i >= 3) || false && true { i = i + 1; if i == 2 { continue; } print(a != nil); } for { break; } panic(i); }`

func TestP701OtherTypes(t *testing.T) {
	x := read(t, everything)
	start(t, x, nil)
	for i, n := range x.Nodes {
		if n.Kind < api.NodeNum {
			continue
		}
		for typ := api.TypeNone; typ <= api.TypeInts; typ++ {
			if typ == n.Type {
				continue
			}
			y := copyOf(x)
			y.Nodes[i].Type = typ
			holdRefused(t, y, nil, api.ErrSemTree)
		}
	}
	holdRefused(t, parsed(t, everything), nil, api.ErrSemTree)
}

func TestP701EmptyListsAreNil(t *testing.T) {
	x := read(t, everything)
	y := copyOf(x)
	for i := range y.Nodes {
		if len(y.Nodes[i].Kids) == 0 {
			y.Nodes[i].Kids = []int{}
			x.Nodes[i].Kids = nil
		}
	}
	a, _ := start(t, x, nil).Run(1000)
	b, _ := start(t, y, []int{}).Run(1000)
	if told(a) != told(b) || a.End != api.Panic {
		t.Errorf("%s, with empty lists %s", told(a), told(b))
	}
}

func TestP701Input(t *testing.T) {
	x := read(t, "func main() { var n int; for { n = n + input(); print(n); } }")
	most := make([]int, api.MaxInput)
	for i := range most {
		most[i] = 1
	}
	o, err := start(t, x, most).Run(api.MaxFuel)
	if err != api.OK || o.Kind != api.PanicInput || len(o.Events) != api.MaxInput || o.Events[api.MaxInput-1].Value != api.MaxInput {
		t.Errorf("as many numbers as may be: %d events, %v, %v", len(o.Events), o.Kind, err)
	}
	holdRefused(t, x, make([]int, api.MaxInput+1), api.ErrInput)
	holdRefused(t, x, make([]int, 2*api.MaxInput), api.ErrInput)
	holdRefused(t, parsed(t, everything), make([]int, api.MaxInput+1), api.ErrSemTree)
}

func TestP702Fuel(t *testing.T) {
	m := start(t, read(t, "func main() { print(1); print(2); }"), nil)
	for _, before := range []string{"running 0 0 0", "running 1 0 1", "running 2 0 1", "running 3 0 1", "1 running 4 0 1"} {
		for _, fuel := range []int{-1, -2, math.MinInt, api.MaxFuel + 1, math.MaxInt} {
			o, err := m.Run(fuel)
			if err != api.ErrFuel || o.Events != nil || told(o) != "running 0 0 0" {
				t.Errorf("Run(%d): %s %v", fuel, told(o), err)
			}
		}
		if o := m.Outcome(); told(o) != before {
			t.Errorf("behind fuels that may not be: %s, want %s", told(o), before)
		}
		m.Step()
	}
	if o, err := m.Run(api.MaxFuel); err != api.OK || told(o) != "1 2 exit 8 0 1" {
		t.Errorf("Run(MaxFuel): %s %v", told(o), err)
	}
	if o, err := m.Run(-1); err != api.ErrFuel || told(o) != "running 0 0 0" {
		t.Errorf("behind the end Run(-1): %s %v", told(o), err)
	}
}

func TestP702BehindTheEnd(t *testing.T) {
	for _, r := range []row{
		{"func main() { print(true); }", nil, "true exit 5 0 1"},
		{"func f() { panic(9); } func main() { print(1); f(); }", nil, "1 panic user 9 10 0 2"},
		{"func main() { print(1 / 0); print(2); }", nil, "panic divide 0 5 0 1"},
		{"func main() { for { print(input()); } }", []int{4}, "4 panic input 0 9 0 1"},
	} {
		m := start(t, read(t, r.text), r.input)
		m.Run(1000)
		for _, fuel := range []int{0, 1, 1000, api.MaxFuel} {
			o, err := m.Run(fuel)
			if m.Step() || err != api.OK || told(o) != r.want || told(m.Outcome()) != r.want {
				t.Errorf("%s: Run(%d) behind the end: %s %v, want %s", r.text, fuel, told(o), err, r.want)
			}
		}
	}
}

func TestP702FuelIsSteps(t *testing.T) {
	x := read(t, "func main() { for { print(1); } }")
	for fuel := range 60 {
		m := start(t, x, nil)
		if o, _ := m.Run(fuel); o.Steps != fuel || len(o.Events) != max(0, fuel-2)/4 {
			t.Errorf("Run(%d): %s", fuel, told(o))
		}
		if o, _ := m.Run(3); o.Steps != fuel+3 {
			t.Errorf("Run(%d), Run(3): %s", fuel, told(o))
		}
	}
}

// TestP702Rest goes beyond MaxEvents: the run stands ahead of the event that would be one more.
func TestP702Rest(t *testing.T) {
	m := start(t, read(t, "func main() { for { print(1); } }"), nil)
	const steps = 2 + 4*api.MaxEvents + 3
	o, err := m.Run(steps - 4)
	if err != api.OK || o.Steps != steps-4 || len(o.Events) != api.MaxEvents-1 {
		t.Fatalf("four steps short of the rest: %d steps, %d events, %v", o.Steps, len(o.Events), err)
	}
	for range 4 {
		if !m.Step() {
			t.Fatalf("a step ahead of the rest was not made")
		}
	}
	for _, fuel := range []int{0, 1, 5, api.MaxFuel} {
		if m.Step() {
			t.Fatalf("a step was made at rest")
		}
		o, err := m.Run(fuel)
		if err != api.OK || o.Steps != steps || len(o.Events) != api.MaxEvents || o.End != api.Running || o.Kind != 0 || o.Value != 0 || o.Depth != 1 {
			t.Fatalf("at rest: %d steps, %d events, end %d, %v", o.Steps, len(o.Events), o.End, err)
		}
	}
	if o, err := m.Run(-1); err != api.ErrFuel || o.Events != nil {
		t.Errorf("at rest Run(-1): %v", err)
	}
}

// TestP702BehindMaxEvents goes on behind MaxEvents events, where no step would tell one more.
func TestP702BehindMaxEvents(t *testing.T) {
	const prints = 1 << 6
	loop := "var i int; for i < 16384 { " + strings.Repeat("print(true); ", prints) + "i = i + 1; } "
	const steps = 4 + api.MaxEvents/prints*(4+3*prints+5) + 4
	for _, x := range []struct {
		text string
		end  int
		kind int
		more int // steps behind the loop
	}{
		{"", api.Exit, 0, 1},
		{"i = make([]int, 4)[2]; f(i);", api.Exit, 0, 15},
		{"panic(3);", api.Panic, api.PanicUser, 3},
		{"print(1 / 0);", api.Panic, api.PanicDivide, 4},
		{"print(input());", api.Panic, api.PanicInput, 2},
		{"print(1 + 1); panic(3);", api.Running, 0, 4},
		{"f(1); print(true); panic(3);", api.Running, 0, 10},
	} {
		m := start(t, read(t, "func f(a int) { a = 1; } func main() { "+loop+x.text+" }"), nil)
		o, err := m.Run(api.MaxFuel)
		if err != api.OK || o.End != x.end || o.Kind != x.kind || len(o.Events) != api.MaxEvents || o.Steps != steps+x.more {
			t.Errorf("%s: %d events, end %d, kind %d, %d steps, want %d", x.text, len(o.Events), o.End, o.Kind, o.Steps, steps+x.more)
		}
		if slices.ContainsFunc(o.Events, func(e api.Event) bool { return e != api.Event{Kind: api.EventBool, Value: 1} }) {
			t.Errorf("%s: other events", x.text)
		}
		if m.Step() {
			t.Errorf("%s: a step behind it", x.text)
		}
	}
}

func TestP703Activations(t *testing.T) {
	holdRows(t, []row{
		// begins; CallStmt, Call; begins; ends; ends
		{"func f() {} func main() { f(); }", nil, "exit 6 0 2"},
		{"func main() { f(); } func f() {}", nil, "exit 6 0 2"},
		{"func main() { f(); f(); } func f() {}", nil, "exit 10 0 2"},
		{"func g() {} func f() { g(); } func main() { f(); }", nil, "exit 10 0 3"},
		// the arguments from the left to the right
		{"func f(a int, b int, c bool) { print(a); print(b); print(c); } func main() { f(input(), input(), true); }", []int{8, 9}, "8 9 true exit 18 0 2"},
		{"func f(a []int, b []int) { a[0] = 1; print(b[0]); print(len(b)); } func main() { var a []int = make([]int, 1); f(a, a); f(make([]int, 2), a); }", nil, "1 1 1 1 exit 45 5 2"},
		// a parameter is a variable of its own
		{"func f(a int) { a = a + 1; print(a); } func main() { var a int = 5; f(a); print(a); }", nil, "6 5 exit 21 0 2"},
		{"func f(a []int) { a = nil; print(a == nil); } func main() { var a []int = make([]int, 0); f(a); print(a == nil); }", nil, "true false exit 24 1 2"},
		{"func f(a int) int { a = a * 2; return a; } func main() { print(f(f(f(1)))); }", nil, "8 exit 35 0 2"},
		// a call within an argument: the activation there has ended ahead of the outer one
		{"func f(a int) int { return a; } func main() { print(f(f(1) + f(2))); }", nil, "3 exit 22 0 2"},
	})
}

func TestP703MainByMain(t *testing.T) {
	const text = "func main() { var n int = input(); print(n); if n > 0 { main(); } print(n + 100); }"
	holdRows(t, []row{
		{text, []int{0}, "0 100 exit 17 0 1"},
		{text, []int{1, 0}, "1 0 100 101 exit 36 0 2"},
		{text, []int{1, 2, 0}, "1 2 0 100 102 101 exit 55 0 3"},
		{text, []int{1, 2}, "1 2 panic input 0 29 0 3"},
		{"func f() { main(); print(2); } func main() { if input() > 0 { f(); } print(1); }", []int{3, 0}, "1 2 1 exit 27 0 3"},
	})
}

// TestP703AsDeepAsTheyAre calls to a depth that no stack of the program's own would bear.
func TestP703AsDeepAsTheyAre(t *testing.T) {
	const depth = 400000
	x := read(t, "func f(n int) int { if n == 0 { return 0; } return f(n - 1) + 1; } func main() { print(f(input())); }")
	m := start(t, x, []int{depth})
	o, _ := m.Run(api.MaxFuel)
	// an activation: begins, If, 3 of the condition, Return, Num; 2 of the sum, Call, 2 of the difference, ends
	if want := strconv.Itoa(depth) + " exit " + strconv.Itoa(6+13*depth+8) + " 0 " + strconv.Itoa(depth+2); told(o) != want {
		t.Errorf("%s, want %s", told(o), want)
	}
	m = start(t, read(t, "func main() { main(); }"), nil)
	if o, _ := m.Run(3 * depth); told(o) != "running "+strconv.Itoa(3*depth)+" 0 "+strconv.Itoa(depth) {
		t.Errorf("main by main: %s", told(o))
	}
}

func TestP703DepthIsTheMost(t *testing.T) {
	const f = "func f(n int) { if n > 1 { f(n - 1); } } "
	holdRows(t, []row{
		{f + "func main() { f(3); f(1); }", nil, "exit 42 0 4"},
		{f + "func main() { f(1); f(3); }", nil, "exit 42 0 4"},
	})
	m := start(t, read(t, "func g() {} func f() { g(); } func main() { f(); f(); }"), nil)
	want := []int{1, 1, 1, 2, 2, 2, 3, 3, 3, 3, 3, 3, 3, 3, 3, 3, 3, 3}
	for i, depth := range want {
		if !m.Step() || m.Outcome().Depth != depth {
			t.Errorf("Depth behind the step %d: %d, want %d", i+1, m.Outcome().Depth, depth)
		}
	}
}

func TestP704Ends(t *testing.T) {
	holdRows(t, []row{
		{"func main() { return; }", nil, "exit 3 0 1"},
		{"func main() { return; print(1); }", nil, "exit 3 0 1"},
		{"func main() { for { { if true { return; } } } }", nil, "exit 8 0 1"},
		{"func main() { for { for { return; } } }", nil, "exit 7 0 1"},
		{"func f() { return; } func main() { f(); }", nil, "exit 7 0 2"},
		{"func f() { for { return; } } func main() { for { f(); break; } print(1); }", nil, "1 exit 15 0 2"},
		{"func f() { for { for { return; } } } func main() { var i int; for i < 2 { f(); i = i + 1; } print(i); }", nil, "2 exit 48 0 2"},
		{"func f() int { return 4; } func main() { print(f()); }", nil, "4 exit 9 0 2"},
		{"func f() bool { return true; } func main() { print(f()); }", nil, "true exit 9 0 2"},
		{"func f() []int { return nil; } func main() { print(len(f())); }", nil, "0 exit 10 0 2"},
		{"func f() []int { return make([]int, 3); } func main() { print(f()[2]); }", nil, "0 exit 12 4 2"},
		{"func f() int { return 4; } func main() { print(f() - f() - f()); }", nil, "-4 exit 21 0 2"},
		// the value of a call that nobody wants is gone
		{"func f() int { return 4; } func main() { print(1); f(); f(); print(2); }", nil, "1 2 exit 20 0 2"},
		{"func f() int { return 4; } func g() int { f(); return 3; } func main() { print(g() + g()); }", nil, "6 exit 27 0 3"},
		{"func f() int { return 4; } func main() { var i int; for i < 3 { i = i + 1; f(); } print(i); }", nil, "3 exit 57 0 2"},
		// the variables of the caller are there again
		{"func f(a int) int { var b int = 7; { var c int = 8; return a + b + c; } } func main() { var a int = 1; var b int = 2; a = f(a); print(a); print(b); }", nil, "16 2 exit 33 0 2"},
	})
}

func TestP705Statements(t *testing.T) {
	holdRows(t, inMain([]row{
		{"var a int; print(a);", nil, "0 exit 7 0 1"},
		{"var a bool; print(a);", nil, "false exit 7 0 1"},
		{"var a []int; print(a == nil);", nil, "true exit 9 0 1"},
		{"var a int = 3; print(a);", nil, "3 exit 8 0 1"},
		{"var a int; a = 4; print(a);", nil, "4 exit 10 0 1"},
		{"var a bool = false; a = !a; print(a);", nil, "true exit 12 0 1"},
		{"var a []int; a = make([]int, 1); a[0] = 6; print(a[0]);", nil, "6 exit 17 2 1"},
		{"var a []int = make([]int, 1); a = nil; print(a == nil);", nil, "true exit 14 2 1"},
		{"print(1);", nil, "1 exit 5 0 1"},
		{"print(1 == 1);", nil, "true exit 7 0 1"},
		{"panic(0);", nil, "panic user 0 4 0 1"},
		{"print(5); panic(-1); print(6);", nil, "5 panic user -1 8 0 1"},
		{"{ }", nil, "exit 3 0 1"},
		{"{ { } { } }", nil, "exit 5 0 1"},
		{"{ print(1); } { print(2); }", nil, "1 2 exit 10 0 1"},
	}))
}

func TestP705If(t *testing.T) {
	holdRows(t, inMain([]row{
		{"if true { }", nil, "exit 4 0 1"},
		{"if false { }", nil, "exit 4 0 1"},
		{"if true { print(1); } print(2);", nil, "1 2 exit 10 0 1"},
		{"if false { print(1); } print(2);", nil, "2 exit 7 0 1"},
		{"if true { } else { print(1); } print(2);", nil, "2 exit 7 0 1"},
		{"if false { } else { print(1); } print(2);", nil, "1 2 exit 10 0 1"},
		{"if false { } else { } print(2);", nil, "2 exit 7 0 1"},
		{"if false { } else if true { print(1); } print(2);", nil, "1 2 exit 12 0 1"},
		{"if false { } else if false { print(1); } print(2);", nil, "2 exit 9 0 1"},
		{"if true { print(0); } else if true { print(1); } else { print(3); } print(2);", nil, "0 2 exit 10 0 1"},
		{"if false { } else if false { print(1); } else { print(3); } print(2);", nil, "3 2 exit 12 0 1"},
		{"if false { } else if false { } else if true { print(1); } else { print(3); }", nil, "1 exit 11 0 1"},
		{"if 1 < 2 && 2 < 3 { print(1); }", nil, "1 exit 13 0 1"},
	}))
}

func TestP705Jumps(t *testing.T) {
	holdRows(t, inMain([]row{
		{"for { break; }", nil, "exit 5 0 1"},
		{"for { break; print(1); } print(2);", nil, "2 exit 8 0 1"},
		{"for true { break; } print(2);", nil, "2 exit 9 0 1"},
		{"for { { { break; } print(1); } print(1); } print(2);", nil, "2 exit 10 0 1"},
		{"for { if true { break; } else { print(1); } print(1); } print(2);", nil, "2 exit 10 0 1"},
		{"for { for { break; } break; } print(2);", nil, "2 exit 11 0 1"},
		{"for { for { break; print(1); } print(3); break; } print(2);", nil, "3 2 exit 14 0 1"},
		{"for { for { for { break; } break; } break; } print(2);", nil, "2 exit 14 0 1"},
		{"var i int; for i < 2 { i = i + 1; continue; print(1); } print(i);", nil, "2 exit 32 0 1"},
		{"var i int; for i < 2 { i = i + 1; { if true { continue; } } print(1); } print(i);", nil, "2 exit 38 0 1"},
		{"var i int; for { i = i + 1; if i < 3 { continue; } break; } print(i);", nil, "3 exit 41 0 1"},
		// an inner loop's continue is its own
		{"var i int; for i < 2 { i = i + 1; var j int; for j < 2 { j = j + 1; continue; } print(j); } print(i);", nil, "2 2 2 exit 90 0 1"},
		{"var i int; for i < 2 { i = i + 1; for { break; } print(i); } for { break; } print(i);", nil, "1 2 2 exit 45 0 1"},
		// loops behind one another, and one in one of them, which is entered again
		{"var i int; for i < 3 { i = i + 1; var j int; for { j = j + 1; if j < i { continue; } print(j); break; } if i == 2 { break; } } print(i);", nil, "1 2 2 exit 80 0 1"},
	}))
}

func TestP706Turns(t *testing.T) {
	holdRows(t, inMain([]row{
		{"for false { }", nil, "exit 5 0 1"},
		{"for false { print(1); }", nil, "exit 5 0 1"},
		{"var i int; for i < 0 { }", nil, "exit 9 0 1"},
		{"var i int; for i < 1 { i = i + 1; }", nil, "exit 18 0 1"},
		{"var i int; for i < 2 { i = i + 1; }", nil, "exit 27 0 1"},
		{"for input() > 0 { print(1); }", []int{3, 2, 1, 0}, "1 1 1 exit 28 0 1"},
		{"for input() > 0 { print(1); }", []int{3, 2}, "1 1 panic input 0 18 0 1"},
		{"for input() > 0 { for input() > 0 { print(2); } print(1); }", []int{1, 1, 1, 0, 1, 0, 0}, "2 2 1 1 exit 45 0 1"},
		{"for 1 / 0 == 1 { }", nil, "panic divide 0 6 0 1"},
		// a bool of && and || as a condition
		{"var i int; for i < 5 && i != 2 { i = i + 1; }", nil, "exit 39 0 1"},
		{"var i int; for i < 1 || i == 1 { i = i + 1; }", nil, "exit 36 0 1"},
	}))
	m := start(t, read(t, "func main() { for { } }"), nil)
	if o, _ := m.Run(10000); told(o) != "running 10000 0 1" {
		t.Errorf("a loop of nothing: %s", told(o))
	}
}

func TestP706EachTurnHasItsVariables(t *testing.T) {
	holdRows(t, inMain([]row{
		{"var i int; for i < 2 { var b int; print(b); b = 9; i = i + 1; }", nil, "0 0 exit 43 0 1"},
		{"var i int; for i < 2 { var b []int; print(b == nil); b = make([]int, 1); i = i + 1; }", nil, "true true exit 49 4 1"},
		{"var i int; for i < 2 { var b bool; print(b); b = true; i = i + 1; if i == 1 { continue; } print(b); }", nil, "false false true exit 55 0 1"},
		{"var i int; for i < 3 { var b int = i; { var i int = 8; b = b + i; } print(b); i = i + 1; }", nil, "8 9 10 exit 81 0 1"},
	}))
}

func TestP707Names(t *testing.T) {
	holdRows(t, inMain([]row{
		{"var a int = 1; { var a int = 2; print(a); a = 3; print(a); } print(a);", nil, "2 3 1 exit 21 0 1"},
		{"var a int = 1; { a = 2; var a int = 5; a = 6; } print(a);", nil, "2 exit 18 0 1"},
		{"var a int = 1; { var a int = a + 1; { var a int = a + 1; print(a); } print(a); } print(a);", nil, "3 2 1 exit 26 0 1"},
		{"var a int = 1; { var a bool = a == 1; print(a); } { var a []int; print(len(a)); } print(a);", nil, "true 0 1 exit 24 0 1"},
		{"var a int = 1; { var b int = 2; var c int = 3; print(a + b + c); } { var c int = 4; var b int; print(a + b + c); } var b int = 9; print(b); print(a);", nil, "6 5 9 1 exit 41 0 1"},
		{"var a int; if true { var b int = 1; a = b; } else { var c int = 2; a = c; } print(a);", nil, "1 exit 15 0 1"},
		{"var main int = 4; print(main);", nil, "4 exit 8 0 1"},
	}))
	holdRows(t, []row{
		{"func f() int { return 1; } func main() { var g int = f(); { var f int = g + 1; print(f); } print(f()); }", nil, "2 1 exit 25 0 2"},
		{"func f(f int) int { f = f + 1; return f; } func main() { print(f(1)); }", nil, "2 exit 15 0 2"},
	})
}

func TestP707Arrays(t *testing.T) {
	holdRows(t, inMain([]row{
		{"var a []int = make([]int, 3); a[0] = 1; a[1] = 2; a[2] = 3; print(a[0]); print(a[1]); print(a[2]);", nil, "1 2 3 exit 33 4 1"},
		{"var a []int = make([]int, 2); var b []int = a; b[1] = 7; print(a[1]); a = make([]int, 2); print(b[1]); print(a[1]);", nil, "7 7 0 exit 32 6 1"},
		{"var a []int = make([]int, 2); a[0] = 5; a[0] = 0; print(a[0]); print(len(a));", nil, "0 2 exit 23 3 1"},
		{"var a []int = make([]int, 3); a[3] = 1;", nil, "panic index 0 9 4 1"},
		{"var a []int = make([]int, 3); a[-1] = 1;", nil, "panic index 0 10 4 1"},
		{"var a []int = make([]int, 0); a[0] = 1;", nil, "panic index 0 9 1 1"},
		{"var a []int; a[0] = 1;", nil, "panic index 0 7 0 1"},
		{"var a []int; a[0] = 1 / 0;", nil, "panic divide 0 8 0 1"},
		{"var a []int; a[1 / 0] = input();", nil, "panic divide 0 7 0 1"},
		{"var a []int = make([]int, 3); a[9] = input();", nil, "panic input 0 8 4 1"},
		{"var a []int = make([]int, 3); a[input()] = input(); print(a[2]); print(a[1]);", []int{2, 1}, "1 0 exit 20 4 1"},
		{"var a []int = make([]int, 3); a[a[0]] = 2; a[a[0]] = 1; print(a[2]);", nil, "1 exit 23 4 1"},
	}))
	const least = "-9223372036854775807 - 1"
	holdRows(t, inMain([]row{
		{"var a []int = make([]int, 3); a[" + least + "] = 1;", nil, "panic index 0 12 4 1"},
		{"var a []int = make([]int, 3); a[9223372036854775807] = 1;", nil, "panic index 0 9 4 1"},
		{"print(make([]int, 3)[" + least + "]);", nil, "panic index 0 9 4 1"},
	}))
}

func TestP708Events(t *testing.T) {
	x := read(t, "func main() { print(0); print(1); print(false); print(true); print(-5); print(input()); print(input() < 0); }")
	m := start(t, x, []int{math.MinInt, math.MinInt})
	o, _ := m.Run(1000)
	want := []api.Event{{Kind: 1}, {Kind: 1, Value: 1}, {Kind: 2}, {Kind: 2, Value: 1}, {Kind: 1, Value: -5}, {Kind: 1, Value: math.MinInt}, {Kind: 2, Value: 1}}
	if !slices.Equal(o.Events, want) || o.End != api.Exit || o.Kind != 0 || o.Value != 0 {
		t.Errorf("%+v, want %+v", o.Events, want)
	}
	p := read(t, "func main() { panic(input()); }")
	for _, n := range []int{0, 1, -1, math.MinInt, math.MaxInt} {
		o, _ := start(t, p, []int{n}).Run(1000)
		if o.End != api.Panic || o.Kind != api.PanicUser || o.Value != n || o.Steps != 4 || len(o.Events) != 0 {
			t.Errorf("panic(%d): %+v", n, o)
		}
	}
}

// TestP709Values prints expressions: two steps ahead of them and two behind are print's and main's.
func TestP709Values(t *testing.T) {
	const most = "9223372036854775807"
	const least = "(-" + most + " - 1)"
	for _, x := range []struct {
		expr  string
		want  string
		steps int
	}{
		{"0", "0", 1}, {most, most, 1}, {"true", "true", 1}, {"false", "false", 1}, {"(((7)))", "7", 1},
		{"-7", "-7", 2}, {"--7", "7", 3}, {"-" + least, "-9223372036854775808", 5}, {"^0", "-1", 2}, {"^^5", "5", 3}, {"^" + most, "-9223372036854775808", 2},
		{"!true", "false", 2}, {"!!true", "true", 3}, {"!false", "true", 2},
		{"1 + 2", "3", 3}, {most + " + 1", "-9223372036854775808", 3}, {"1 - 2", "-1", 3}, {least + " - 1", most, 6},
		{"6 * 7", "42", 3}, {"4294967296 * 4294967296", "0", 3}, {most + " * 2", "-2", 3},
		{"7 / 2", "3", 3}, {"-7 / 2", "-3", 4}, {"7 / -2", "-3", 4}, {least + " / -1", "-9223372036854775808", 7},
		{"7 % 2", "1", 3}, {"-7 % 2", "-1", 4}, {"7 % -2", "1", 4}, {least + " % -1", "0", 7},
		{"12 & 10", "8", 3}, {"12 | 10", "14", 3}, {"12 ^ 10", "6", 3}, {"12 &^ 10", "4", 3},
		{"1 << 3", "8", 3}, {"1 << 63", "-9223372036854775808", 3}, {"1 << 64", "0", 3}, {"1 << " + most, "0", 3}, {"3 << 0", "3", 3},
		{"9 >> 1", "4", 3}, {"-9 >> 1", "-5", 4}, {"-9 >> 64", "-1", 4}, {"-9 >> " + most, "-1", 4}, {"9 >> 64", "0", 3}, {"9 >> 0", "9", 3},
		{"1 == 1", "true", 3}, {"1 == 2", "false", 3}, {"1 != 1", "false", 3}, {"1 != 2", "true", 3},
		{"1 < 1", "false", 3}, {"1 < 2", "true", 3}, {"2 < 1", "false", 3}, {"1 <= 1", "true", 3}, {"1 <= 2", "true", 3}, {"2 <= 1", "false", 3},
		{"1 > 1", "false", 3}, {"1 > 2", "false", 3}, {"2 > 1", "true", 3}, {"1 >= 1", "true", 3}, {"1 >= 2", "false", 3}, {"2 >= 1", "true", 3},
		{least + " < " + most, "true", 6}, {least + " > " + most, "false", 6},
		{"true == true", "true", 3}, {"true == false", "false", 3}, {"false == false", "true", 3}, {"true != false", "true", 3}, {"true != true", "false", 3},
		{"1 - 2 - 3", "-4", 5}, {"1 - (2 - 3)", "2", 5}, {"1 + 2 * 3", "7", 5},
		{"len(make([]int, 0))", "0", 3}, {"len(make([]int, 5))", "5", 3}, {"make([]int, 5)[4]", "0", 4},
		{"make([]int, 0) == nil", "false", 4}, {"nil == make([]int, 0)", "false", 4}, {"make([]int, 0) != nil", "true", 4}, {"nil != make([]int, 3)", "true", 4},
		{"none() == nil", "true", 7}, {"nil == none()", "true", 7}, {"none() != nil", "false", 7}, {"len(none())", "0", 6},
	} {
		o, _ := start(t, read(t, "func none() []int { return nil; } func main() { print("+x.expr+"); }"), nil).Run(1000)
		if got := told(o); !strings.HasPrefix(got, x.want+" exit "+strconv.Itoa(x.steps+4)+" ") {
			t.Errorf("%s: %s, want %s in %d steps", x.expr, got, x.want, x.steps+4)
		}
	}
}

func TestP709BothEither(t *testing.T) {
	// s tells its own number and gives a bool: so what is looked at can be seen.
	const s = "func s(n int, b bool) bool { print(n); return b; } "
	holdRows(t, []row{
		{s + "func main() { print(s(1, false) && s(2, true)); }", nil, "1 false exit 15 0 2"},
		{s + "func main() { print(s(1, true) && s(2, false)); }", nil, "1 2 false exit 25 0 2"},
		{s + "func main() { print(s(1, true) && s(2, true)); }", nil, "1 2 true exit 25 0 2"},
		{s + "func main() { print(s(1, false) || s(2, true)); }", nil, "1 2 true exit 25 0 2"},
		{s + "func main() { print(s(1, false) || s(2, false)); }", nil, "1 2 false exit 25 0 2"},
		{s + "func main() { print(s(1, true) || s(2, false)); }", nil, "1 true exit 15 0 2"},
	})
	holdRows(t, inMain([]row{
		{"print(true && true);", nil, "true exit 7 0 1"},
		{"print(false || false);", nil, "false exit 7 0 1"},
		{"print(true && true && false);", nil, "false exit 9 0 1"},
		{"print(false && true && true);", nil, "false exit 7 0 1"},
		{"print(true || 1 / 0 == 0 || true);", nil, "true exit 7 0 1"},
		{"print(false && true || true && false);", nil, "false exit 10 0 1"},
		{"print(true || 1 / 0 == 0);", nil, "true exit 6 0 1"},
		{"print(false || 1 / 0 == 0);", nil, "panic divide 0 7 0 1"},
		{"print(true && 1 / 0 == 0);", nil, "panic divide 0 7 0 1"},
		{"print(!(true && false));", nil, "true exit 8 0 1"},
		{"print((true && false) == (false || false));", nil, "true exit 11 0 1"},
		{"var a bool = false && true; print(a);", nil, "false exit 9 0 1"},
	}))
}

func TestP709Order(t *testing.T) {
	// f tells its number and gives it.
	const f = "func f(n int) int { print(n); return n; } func g(a int, b int, c int) int { return a * 100 + b * 10 + c; } "
	for _, x := range []struct{ body, events string }{
		{"print(f(7) - f(2));", "7 2 5 "},
		{"print(g(f(1), f(2), f(3)));", "1 2 3 123 "},
		{"print(g(input(), input(), input()));", "456 "},
		{"print(f(1) + f(2) * f(3));", "1 2 3 7 "},
		{"print((f(1) + f(2)) * f(3));", "1 2 3 9 "},
		{"print(f(1) < f(2));", "1 2 true "},
		{"print(f(3) > f(2));", "3 2 true "},
		{"print(f(2) >= f(3));", "2 3 false "},
		{"print(make([]int, f(3))[f(1)]);", "3 1 0 "},
		{"var a []int = make([]int, 9); a[f(4)] = f(5); print(a[f(4)]);", "4 5 4 5 "},
		{"f(f(f(1)));", "1 1 1 "},
	} {
		o, _ := start(t, read(t, f+"func main() { "+x.body+" }"), []int{4, 5, 6}).Run(1000)
		if got := told(o); !strings.HasPrefix(got, x.events+"exit ") {
			t.Errorf("%s: %s, want %s", x.body, got, x.events)
		}
	}
}

func TestP709Input(t *testing.T) {
	holdRows(t, inMain([]row{
		{"print(input()); print(input());", []int{3, -4}, "3 -4 exit 8 0 1"},
		{"print(input()); print(input());", []int{3}, "3 panic input 0 6 0 1"},
		{"print(input() - input());", []int{3, -4, 9}, "7 exit 7 0 1"},
	}))
	holdRows(t, []row{
		{"func f() int { return input() * 10; } func main() { print(f() + input() + f()); }", []int{1, 2, 3}, "42 exit 21 0 2"},
	})
}

func TestP709Words(t *testing.T) {
	const long = "4611686018427387903" // MaxWords - 1
	words := strconv.Itoa(api.MaxWords)
	holdRows(t, inMain([]row{
		{"var a []int = make([]int, 0);", nil, "exit 6 1 1"},
		{"var a []int = make([]int, 10); a = make([]int, 5);", nil, "exit 10 17 1"},
		{"var i int; for i < 3 { i = i + 1; var a []int = make([]int, i); }", nil, "exit 48 9 1"},
		{"var a []int = make([]int, " + long + "); print(len(a));", nil, long + " exit 10 " + words + " 1"},
		{"var a []int = make([]int, " + long + " - 1); print(len(a));", nil, "4611686018427387902 exit 12 4611686018427387903 1"},
		{"var a []int = make([]int, " + long + " - 1); a = make([]int, 0);", nil, "exit 12 " + words + " 1"},
		{"var a []int = make([]int, " + long + " - 1); a = make([]int, 1);", nil, "exit 12 " + words + " 1"},
		{"var a []int = make([]int, " + long + " + 1); print(len(a));", nil, words + " exit 12 " + words + " 1"},
		{"var a []int = make([]int, 9223372036854775807); print(len(a));", nil, "9223372036854775807 exit 10 " + words + " 1"},
		{"var a []int = make([]int, 9223372036854775807); a = make([]int, 9223372036854775807); a = make([]int, 3); print(len(a));", nil, "3 exit 18 " + words + " 1"},
		{"var a []int = make([]int, 7); a = make([]int, 9223372036854775807 - 7); print(len(a));", nil, "9223372036854775800 exit 16 " + words + " 1"},
		{"var a []int = make([]int, 7); a = make([]int, -1); print(len(a));", nil, "panic make 0 9 8 1"},
	}))
}

// TestP709LongArrays sets a few elements of arrays as long as they can be.
func TestP709LongArrays(t *testing.T) {
	holdRows(t, inMain([]row{
		{"var a []int = make([]int, input()); a[len(a) - 1] = 3; a[0] = 4; a[4294967296] = 5; print(a[len(a) - 1]); print(a[0]); print(a[4294967296]); print(a[1]); print(a[len(a)]);",
			[]int{1 << 62}, "3 4 5 0 panic index 0 48 4611686018427387904 1"},
		{"var a []int = make([]int, input()); a[len(a) - 1] = 3; print(a[len(a) - 1]); print(a[len(a) - 2]); a[len(a)] = 1;",
			[]int{math.MaxInt}, "3 0 panic index 0 33 4611686018427387904 1"},
	}))
	x := read(t, "func main() { var i int; for i < 100000 { var a []int = make([]int, 4611686018427387904); a[i * 1000003] = i; i = i + a[i * 1000003] - i + 1; a[0] = 0; } }")
	m := start(t, x, nil)
	if o, _ := m.Run(api.MaxFuel); o.End != api.Exit || o.Words != api.MaxWords {
		t.Errorf("many long arrays: %s", told(o))
	}
}

func TestP709Panics(t *testing.T) {
	for _, x := range []struct {
		expr  string
		want  string
		steps int // of the expression, up to its panic
	}{
		{"1 / 0", "divide", 3}, {"0 / 0", "divide", 3}, {"1 % 0", "divide", 3}, {"(-9223372036854775807 - 1) / 0", "divide", 6},
		{"1 << -1", "shift", 4}, {"1 >> -1", "shift", 4}, {"0 << (-9223372036854775807 - 1)", "shift", 6},
		{"len(make([]int, -1))", "make", 3}, {"len(make([]int, -9223372036854775807 - 1))", "make", 5},
		{"make([]int, 3)[3]", "index", 4}, {"make([]int, 3)[-1]", "index", 5}, {"make([]int, 0)[0]", "index", 4}, {"none()[0]", "index", 7}, {"none()[-1]", "index", 8},
		{"input()", "input", 1}, {"1 + input()", "input", 2}, {"input() / 0", "input", 1},
		{"1 / 0 + input()", "divide", 3}, {"make([]int, 2)[2] + 1 / 0", "index", 4}, {"make([]int, 2)[1 / 0]", "divide", 5},
	} {
		steps := x.steps + 2
		depth := 1
		if strings.Contains(x.expr, "none") {
			depth = 2
		}
		m := start(t, read(t, "func none() []int { return nil; } func main() { print("+x.expr+"); print(5); }"), nil)
		o, _ := m.Run(1000)
		if o.End != api.Panic || o.Value != 0 || o.Steps != steps || len(o.Events) != 0 || o.Depth != depth || !strings.HasPrefix(told(o), "panic "+x.want+" 0 ") {
			t.Errorf("%s: %s, want %s in %d steps", x.expr, told(o), x.want, steps)
		}
	}
}

func TestP710APanicEndsTheRun(t *testing.T) {
	const deep = "func f(n int) int { if n == 0 { panic(77); } var a []int = make([]int, 1); return f(n - 1); } "
	holdRows(t, []row{
		{deep + "func main() { print(1); print(f(2)); print(3); }", nil, "1 panic user 77 43 4 4"},
		{"func main() { for { for { panic(-3); } } print(1); }", nil, "panic user -3 9 0 1"},
		{"func main() { main_(); } func main_() { var a []int; a[0] = 2; }", nil, "panic index 0 10 0 2"},
	})
	m := start(t, read(t, "func main() { panic(7); }"), nil)
	for i, want := range []string{"running 1 0 1", "running 2 0 1", "running 3 0 1", "panic user 7 4 0 1"} {
		if !m.Step() || told(m.Outcome()) != want {
			t.Errorf("behind the step %d: %s, want %s", i+1, told(m.Outcome()), want)
		}
	}
	if m.Step() {
		t.Errorf("a step behind the panic")
	}
}

// TestDeepTexts runs what nests as deep as the document lets it.
func TestDeepTexts(t *testing.T) {
	const deep = 1 << 15
	for _, x := range []struct{ open, middle, shut, want string }{
		{"print(" + strings.Repeat("-", deep), "1", ");", "1 exit 32773 0 1"},
		{"print(" + strings.Repeat("1 + (", deep), "1", strings.Repeat(")", deep) + ");", "32769 exit 65541 0 1"},
		{"print(1" + strings.Repeat(" + 1", deep), "", ");", "32769 exit 65541 0 1"},
		{"print(true" + strings.Repeat(" && true", deep), "", ");", "true exit 65541 0 1"},
		{"print(" + strings.Repeat("true && (", deep), "false", strings.Repeat(")", deep) + ");", "false exit 65541 0 1"},
		{strings.Repeat("{", deep), "print(1);", strings.Repeat("}", deep), "1 exit 32773 0 1"},
		{strings.Repeat("if true {", deep), "print(1);", strings.Repeat("}", deep), "1 exit 65541 0 1"},
		{strings.Repeat("if false { } else ", deep), "{ print(1); }", "", "1 exit 65541 0 1"},
		{strings.Repeat("for {", deep), "return;", strings.Repeat("}", deep), "exit 65539 0 1"},
		{strings.Repeat("print(1);", deep), "", "", strings.Repeat("1 ", deep) + "exit 98306 0 1"},
		{strings.Repeat("{ var a int = 1;", deep), "print(a);", strings.Repeat("}", deep), "1 exit 131077 0 1"},
	} {
		text := "func main() { " + x.open + x.middle + x.shut + " }"
		if o, _ := start(t, read(t, text), nil).Run(1 << 20); told(o) != x.want {
			t.Errorf("%.40s..: %.40s, want %.40s", text, told(o), x.want)
		}
	}
}

func TestWhatIsHandedInIsNotChangedAndNotKept(t *testing.T) {
	x := read(t, everything)
	input := append(make([]int, 0, 4), 1, 9)
	spare := input[:4]
	spare[2], spare[3] = 77, 78
	for i := range x.Nodes {
		kids := append(make([]int, 0, len(x.Nodes[i].Kids)+2), x.Nodes[i].Kids...)
		kids = append(kids, -5, -6)
		x.Nodes[i].Kids = kids[:len(kids)-2]
	}
	before := copyOf(x)
	want, _ := start(t, before, []int{1, 9}).Run(1000)
	m := start(t, x, input)
	m.Run(10)
	for i, n := range x.Nodes {
		y := before.Nodes[i]
		room := n.Kids[:len(n.Kids)+2]
		if !slices.Equal(n.Kids, y.Kids) || n.Kind != y.Kind || n.Type != y.Type || n.Name != y.Name || n.Value != y.Value || n.Op != y.Op || room[len(n.Kids)] != -5 || room[len(n.Kids)+1] != -6 {
			t.Fatalf("the node %d was changed", i)
		}
	}
	if !slices.Equal(spare, []int{1, 9, 77, 78}) || !slices.Equal(x.Funcs, before.Funcs) {
		t.Fatalf("what was handed in was changed: %v", spare)
	}
	for i := range x.Nodes {
		clear(x.Nodes[i].Kids)
		x.Nodes[i] = api.Node{}
	}
	clear(x.Funcs)
	clear(spare)
	if got, _ := m.Run(1000); told(got) != told(want) || got.End != api.Panic {
		t.Errorf("what was handed in was kept: %s, want %s", told(got), told(want))
	}
}

func TestWhatIsAnsweredIsTheCallers(t *testing.T) {
	m := start(t, read(t, "func main() { print(1); print(2); print(3); print(4); print(5); }"), nil)
	m.Run(7)
	a, b := m.Outcome(), m.Outcome()
	c, _ := m.Run(0)
	for _, list := range [][]api.Event{a.Events, b.Events, c.Events} {
		room := list[:cap(list)]
		for i := range room {
			room[i] = api.Event{Kind: 2, Value: 9}
		}
	}
	a = m.Outcome()
	if told(a) != "1 2 running 7 0 1" {
		t.Errorf("behind writing into answers: %s", told(a))
	}
	m.Run(100)
	if len(a.Events) != 2 || told(m.Outcome()) != "1 2 3 4 5 exit 17 0 1" {
		t.Errorf("%v behind the end %s", a.Events, told(m.Outcome()))
	}
}

func TestTwoRunsInTurns(t *testing.T) {
	x := read(t, "func f(a []int, n int) { a[0] = a[0] + n; print(a[0]); } func main() { var a []int = make([]int, 1); for { f(a, input()); } }")
	a, b := start(t, x, []int{1, 2, 3}), start(t, x, []int{10, 20})
	for a.Step() {
		b.Run(2)
	}
	if o := a.Outcome(); !strings.HasPrefix(told(o), "1 3 6 panic input 0 ") {
		t.Errorf("the one: %s", told(o))
	}
	if o := b.Outcome(); !strings.HasPrefix(told(o), "10 30 panic input 0 ") {
		t.Errorf("the other: %s", told(o))
	}
}

// inUse makes steps and tells how much memory there is in use then.
func inUse(m *sem.Machine, steps int) int {
	m.Run(steps)
	runtime.GC()
	var s runtime.MemStats
	runtime.ReadMemStats(&s)
	runtime.KeepAlive(m)
	return int(s.HeapAlloc)
}

// TestMemory lets runs go on for long which need no more at their end than at their beginning.
func TestMemory(t *testing.T) {
	for _, body := range []string{
		"for { f(1, nil); }",
		"for { f(1, make([]int, 3)); }",
		"for { { var a int; { var b int; } } if true { var c int; continue; } }",
		"for { for { break; } for { if true { break; } } }",
		"var i int; var a []int = make([]int, 4611686018427387904); for { i = i + 1; a[i] = 0; a[5] = i; }",
		"for { var a []int = make([]int, 4611686018427387904); a[7] = 8; a[8] = a[7]; }",
		"for { var b bool = f(1, nil) == f(2, nil) && f(3, nil) == 4 || true; }",
	} {
		x := read(t, "func f(n int, a []int) int { for { var b []int = a; { var c int = n; if n > 0 { return c; } } } } func main() { "+body+" }")
		m := start(t, x, nil)
		before := inUse(m, 10000)
		if after := inUse(m, 400000); after-before > 100000 {
			t.Errorf("%s: %d bytes more", body, after-before)
		}
	}
}
