package ssarun_test

import (
	"math"
	"runtime"
	"slices"
	"strconv"
	"strings"
	"testing"

	"quern/api"
	"quern/sample"
	"quern/ssarun"
)

func start(t testing.TB, s api.SSA, input []int) *ssarun.Machine {
	t.Helper()
	m, err := ssarun.New(s, input)
	if err != api.OK || m == nil {
		t.Fatalf("New: %v of %+v", err, s)
	}
	return m
}

func told(o api.Outcome) string { return sample.Told(o) }

// row is a program with its input, and what its run tells.
type row struct {
	text  string
	input []int
	want  string
}

// holdRows runs each program at once, step by step, and in two pieces at every place.
func holdRows(t *testing.T, rows []row) {
	t.Helper()
	for _, r := range rows {
		s := sample.SSA(r.text)
		if no := sample.Hold(func() sample.Machine { return start(t, s, r.input) }, r.want); no != "" {
			t.Errorf("%s %v:\n%s", r.text, r.input, no)
		}
	}
}

// inMain are rows whose texts are main's blocks.
func inMain(rows []row) []row {
	for i := range rows {
		rows[i].text = "main()\n" + rows[i].text
	}
	return rows
}

func TestExamples(t *testing.T) {
	m := start(t, sample.SSA(sample.Loop), nil)
	if o, err := m.Run(-1); err != api.ErrFuel || told(o) != "running 0 0 0" {
		t.Errorf("P, Run(-1): %s %v", told(o), err)
	}
	for _, x := range []struct {
		fuel int
		want string
	}{{0, "running 0 0 1"}, {7, "0 running 7 0 1"}, {100, "0 1 2 exit 31 0 1"}} {
		if o, err := start(t, sample.SSA(sample.Loop), nil).Run(x.fuel); err != api.OK || told(o) != x.want {
			t.Errorf("P, Run(%d): %s %v, want %s", x.fuel, told(o), err, x.want)
		}
	}
	holdRows(t, inMain([]row{
		{"0: v0 const 7; panic v0", nil, "panic user 7 2 0 1"},
		{"0: v0 const 2; v1 alloc v0; v2 load v1 v0; return", nil, "stuck element 3 3 1"},
		{"0: v0 const 0; trapzero 1 v0; v2 div v0 v0; return", nil, "panic divide 2 0 1"},
	}))
	holdRows(t, []row{{`f(v0 int) int
		0: return v0
		main()
		0: v0 const 5; v1 call f v0; print v1; return`, nil, "5 exit 5 0 2"}})
}

func TestP1001Errors(t *testing.T) {
	long := make([]int, api.MaxInput+1)
	for _, x := range sample.Wrongs() {
		for _, input := range [][]int{nil, {1}, long[:api.MaxInput], long} {
			if m, err := ssarun.New(x.Program, input); m != nil || err != x.Why {
				t.Errorf("New of what is no SSA, %d numbers: %v, want %v", len(input), err, x.Why)
			}
		}
	}
	for _, s := range []api.SSA{{}, {Main: -1}, {Funcs: []api.SFunc{{}}}, {Funcs: []api.SFunc{{Name: "main"}}}} {
		if m, err := ssarun.New(s, long); m != nil || err != api.ErrSSAForm {
			t.Errorf("New(%+v): %v", s, err)
		}
	}
	good := sample.SSA(sample.Loop)
	if m, err := ssarun.New(good, long); m != nil || err != api.ErrInput {
		t.Errorf("New with MaxInput + 1 numbers: %v", err)
	}
	if m, err := ssarun.New(good, long[:api.MaxInput]); m == nil || err != api.OK {
		t.Errorf("New with MaxInput numbers: %v", err)
	}
}

func TestP1001Beginning(t *testing.T) {
	for _, text := range []string{
		sample.Loop,
		"main()\n0: return",
		"main()\n0: a const 1; panic a",
		"f()\n0: return\nmain()\n0: a const 5; b alloc a; call f; print a; return",
	} {
		m := start(t, sample.SSA(text), []int{1, 2})
		for range 2 {
			if o := m.Outcome(); told(o) != "running 0 0 1" || len(o.Events) != 0 {
				t.Errorf("at the beginning of %s: %s", text, told(o))
			}
		}
		if o, err := m.Run(0); err != api.OK || told(o) != "running 0 0 1" {
			t.Errorf("Run(0) of %s: %s %v", text, told(o), err)
		}
	}
}

func TestP1001AllOfTheInput(t *testing.T) {
	input := make([]int, api.MaxInput)
	for i := range input {
		input[i] = i*i - 7
	}
	m := start(t, sample.SSA("main()\n0: jump 1\n1: a input; print a; jump 1"), input)
	o, _ := m.Run(api.MaxFuel)
	if o.End != api.Panic || o.Kind != api.PanicInput || o.Value != 0 || o.Steps != 1+3*api.MaxInput+1 || len(o.Events) != api.MaxInput {
		t.Fatalf("%d events, End %d Kind %d, Steps %d", len(o.Events), o.End, o.Kind, o.Steps)
	}
	for i, e := range o.Events {
		if e != (api.Event{Kind: api.EventInt, Value: i*i - 7}) {
			t.Fatalf("the event %d: %+v", i, e)
		}
	}
}

func TestP1002Fuel(t *testing.T) {
	m := start(t, sample.SSA(sample.Loop), nil)
	m.Run(7)
	for _, fuel := range []int{-1, -2, -1 << 32, math.MinInt, api.MaxFuel + 1, api.MaxFuel + 2, 1 << 62, math.MaxInt} {
		o, err := m.Run(fuel)
		if err != api.ErrFuel || told(o) != "running 0 0 0" || o.Events != nil {
			t.Errorf("Run(%d): %s %v", fuel, told(o), err)
		}
		if is := told(m.Outcome()); is != "0 running 7 0 1" {
			t.Errorf("behind Run(%d): %s", fuel, is)
		}
	}
	if o, err := m.Run(api.MaxFuel); err != api.OK || told(o) != "0 1 2 exit 31 0 1" {
		t.Errorf("Run(MaxFuel): %s %v", told(o), err)
	}
	if o, err := m.Run(-1); err != api.ErrFuel || told(o) != "running 0 0 0" {
		t.Errorf("Run(-1) behind the end: %s %v", told(o), err)
	}
}

func TestP1002BehindTheEnd(t *testing.T) {
	for _, r := range inMain([]row{
		{"0: a const 1; print a; return", nil, "1 exit 3 0 1"},
		{"0: a const 1; print a; panic a", nil, "1 panic user 1 3 0 1"},
		{"0: a const -1; print a; trapneg 2 a; print a; return", nil, "-1 panic index 3 0 1"},
		{"0: a const 0; print a; b div a a; print a; return", nil, "0 stuck zero 3 0 1"},
		{"0: a const 0; b alloc a; c input; print a; return", nil, "panic input 3 1 1"},
	}) {
		if no := sample.HoldEnd(start(t, sample.SSA(r.text), r.input), r.want); no != "" {
			t.Errorf("%s: %s", r.text, no)
		}
	}
}

// TestP1002Rests goes to MaxEvents events; what then follows are steps that tell none, up to one that would, or to the end.
func TestP1002Rests(t *testing.T) {
	turns := "0: a const 0; n const " + strconv.Itoa(api.MaxEvents) + "; jump 1\n1: b phi.int a d; print b; c const 1; d add b c; e lt d n; branch e 1 2\n2: "
	const all = 3 + 6*api.MaxEvents // steps, up to block 2
	for _, x := range []struct {
		text       string
		end, steps int
	}{
		{"0: a const 0; jump 1\n1: b phi.int a d; print b; c const 1; d add b c; jump 1", api.Running, 2 + 5*api.MaxEvents + 1},
		{"0: a const true; jump 1\n1: b phi.bool a d; printbool b; c const 1; d not b; jump 1", api.Running, 2 + 5*api.MaxEvents + 1},
		{turns + "print d; return", api.Running, all},
		{turns + "f const 4; g const 5; print g; return", api.Running, all + 2},
		{turns + "f const 4; g alloc f; call more; return\nmore()\n0: x const true; y not x; printbool y; return", api.Running, all + 5},
		{turns + "f const 4; return", api.Exit, all + 2},
		{turns + "trapneg 1 d; trapzero 3 a; print a; return", api.Panic, all + 2},
		{turns + "f div d a; print a; return", api.Stuck, all + 1},
	} {
		m := start(t, sample.SSA("main()\n"+x.text), nil)
		o, _ := m.Run(api.MaxFuel)
		if len(o.Events) != api.MaxEvents || o.End != x.end || o.Steps != x.steps {
			t.Errorf("%s: %d events, End %d, Steps %d, want %d", x.text, len(o.Events), o.End, o.Steps, x.steps)
		}
		for range 3 {
			p, err := m.Run(1000)
			if m.Step() || err != api.OK || p.Steps != x.steps || p.End != x.end || len(p.Events) != api.MaxEvents || p.Depth != o.Depth || p.Words != o.Words {
				t.Errorf("%s: where it rests, or behind its end, it goes on", x.text)
			}
		}
	}
}

func TestP1002RestsStepByStep(t *testing.T) {
	s := sample.SSA("main()\n0: a const 0; jump 1\n1: b phi.int a d; print b; c const 1; d add b c; jump 1")
	m := start(t, s, nil)
	made := 0
	for m.Step() {
		made++
	}
	o := m.Outcome()
	if made != 3+5*api.MaxEvents || o.Steps != made || o.End != api.Running || len(o.Events) != api.MaxEvents {
		t.Errorf("%d steps made, %d told, %d events, End %d", made, o.Steps, len(o.Events), o.End)
	}
	for i, e := range o.Events {
		if e != (api.Event{Kind: api.EventInt, Value: i}) {
			t.Fatalf("the event %d: %+v", i, e)
		}
	}
	m = start(t, s, nil)
	m.Run(made - 1)
	if !m.Step() || m.Step() || m.Step() {
		t.Error("the last step ahead of the rest, and two that are none")
	}
}

func TestP1003Phis(t *testing.T) {
	const swap = `0: a const 1; b const 2; n const 0; jump 1
		1: x phi.int a y; y phi.int b x; i phi.int n k; print x; print y; one const 1; k add i one; three const 3; c lt k three; branch c 1 2
		2: print x; return`
	holdRows(t, inMain([]row{
		{swap, nil, "1 2 2 1 1 2 1 exit 36 0 1"},
		// Three that go around, written so that each reads one that is set ahead of it or behind it.
		{`0: a const 1; b const 2; c const 3; t const true; jump 1
		1: x phi.int a z; y phi.int b x; z phi.int c y; w phi.bool t u; print x; print y; print z; u not w; branch u 2 1
		2: return`, nil, "1 2 3 3 1 2 exit 24 0 1"},
		// A Phi that keeps its own number.
		{`0: a const 5; n const 3; jump 1
		1: x phi.int a x; i phi.int n k; one const 1; k sub i one; print x; zero const 0; c lt zero k; branch c 1 2
		2: print x; return`, nil, "5 5 5 5 exit 29 0 1"},
		// What the block itself made when it was run ahead.
		{`0: a const 1; jump 1
		1: x phi.int a y; d phi.int a x; y add x x; print d; l const 9; c lt y l; branch c 1 2
		2: print x; print d; return`, nil, "1 1 2 4 8 4 exit 33 0 1"},
		// Of all types, and Phis that nobody wants.
		{`0: a const nil; s const 2; t const true; jump 1
		1: x phi.ints a y; w phi.bool t u; z phi.int s v; u not w; v len x; y alloc s; printbool w; print v; branch w 1 2
		2: e len x; print e; return`, nil, "true 0 false 2 2 exit 25 6 1"},
	}))
}

func TestP1003TheWayByWhichItWasComeTo(t *testing.T) {
	const both = `0: i input; zero const 0; c ne i zero; a const 10; b const 20; branch c 1 1
		1: x phi.int a b; y phi.int b a; print x; print y; return`
	const four = `0: i input; one const 1; c le i one; p const 10; q const 20; r const 30; s const 40; branch c 1 2
		1: d lt i one; branch d 4 4
		2: two const 2; e le i two; branch e 4 3
		3: jump 4
		4: x phi.int p q r s; print x; return`
	// A loop whose last block comes back by both ways; the Preds of block 1 are 0 2 2.
	const self = `0: a const 0; b const 1; n const 5; jump 1
		1: x phi.int a f g; k phi.int a l l; l add k b; f add x b; ten const 10; g add x ten; print x; i input; c ne i a; e lt l n; branch e 2 3
		2: branch c 1 1
		3: return`
	holdRows(t, inMain([]row{
		{both, []int{1}, "10 20 exit 11 0 1"},
		{both, []int{0}, "20 10 exit 11 0 1"},
		{both, []int{-9}, "10 20 exit 11 0 1"},
		{four, []int{0}, "10 exit 13 0 1"},
		{four, []int{1}, "20 exit 13 0 1"},
		{four, []int{2}, "30 exit 14 0 1"},
		{four, []int{3}, "40 exit 15 0 1"},
		{self, []int{1, 0, 0, 7, 1}, "0 1 11 21 22 exit 64 0 1"},
	}))
	// A loop of one block; its Preds are 0 1 1.
	const around = `0: a const 0; b const 1; n const 3; jump 1
		1: x phi.int a f g; k phi.int a l l; l add k b; f add x b; ten const 10; g add x ten; print x; trapbound 2 k n; i input; c ne i a; branch c 1 1`
	holdRows(t, inMain([]row{
		{around, []int{1, 0, 1, 1}, "0 1 11 12 panic index 45 0 1"},
		{around, []int{0, 0, -1}, "0 10 20 21 panic index 45 0 1"},
	}))
}

// TestP1003ManyWays has a block to which many lead, with a number of its own for each.
func TestP1003ManyWays(t *testing.T) {
	const ways = 300
	var text, args strings.Builder
	text.WriteString("main()\n0: i input; one const 1; jump 1\n")
	// The blocks 1 to ways count the input down; each leads to the last one where it is 0.
	name := "i"
	for b := 1; b <= ways; b++ {
		n := strconv.Itoa(b)
		text.WriteString(n + ": z" + n + " const 0; c" + n + " eq " + name + " z" + n + "; m" + n + " const " + strconv.Itoa(1000+b) + "; k" + n + " sub " + name + " one; ")
		name = "k" + n
		if b < ways {
			text.WriteString("branch c" + n + " " + strconv.Itoa(ways+1) + " " + strconv.Itoa(b+1) + "\n")
		} else {
			text.WriteString("jump " + strconv.Itoa(ways+1) + "\n")
		}
		args.WriteString(" m" + n)
	}
	text.WriteString(strconv.Itoa(ways+1) + ": x phi.int" + args.String() + "; print x; return\n")
	s := sample.SSA(text.String())
	for i := range ways {
		want := strconv.Itoa(1001+i) + " exit " + strconv.Itoa(3+5*(i+1)+3) + " 0 1"
		if o, _ := start(t, s, []int{i}).Run(10000); told(o) != want {
			t.Fatalf("the way %d: %s, want %s", i, told(o), want)
		}
	}
}

// TestP1003AStepForEachPhi: ahead of its step a Phi has the number that it had; nothing can ask but by how many steps there are.
func TestP1003AStepForEachPhi(t *testing.T) {
	for _, phis := range []int{0, 1, 2, 7, 100, 5000} {
		var text strings.Builder
		text.WriteString("main()\n0: a const 4; jump 1\n1: ")
		for i := range phis {
			text.WriteString("p" + strconv.Itoa(i) + " phi.int a; ")
		}
		text.WriteString("print a; return")
		s := sample.SSA(text.String())
		m := start(t, s, nil)
		if o, _ := m.Run(2 + phis); told(o) != "running "+strconv.Itoa(2+phis)+" 0 1" {
			t.Errorf("%d Phis: %s", phis, told(o))
		}
		if o, _ := m.Run(9); told(o) != "4 exit "+strconv.Itoa(4+phis)+" 0 1" {
			t.Errorf("%d Phis: %s", phis, told(o))
		}
	}
}

func TestP1004Const(t *testing.T) {
	for _, n := range edges() {
		holdRows(t, inMain([]row{{"0: a const " + strconv.Itoa(n) + "; print a; return", nil, strconv.Itoa(n) + " exit 3 0 1"}}))
	}
	holdRows(t, inMain([]row{
		{"0: a const true; b const false; printbool a; printbool b; return", nil, "true false exit 5 0 1"},
		{"0: a const nil; b const nil; c eq a b; printbool c; d len a; print d; return", nil, "true 0 exit 7 0 1"},
	}))
}

func edges() []int {
	return []int{0, 1, -1, 2, -2, 3, -7, 62, 63, 64, 65, -63, -64, 100, 1 << 31, 1<<32 - 1, 1 << 32, 1<<32 + 1, -1 << 31, -1 << 32, 1 << 62, -1 << 62,
		math.MaxInt - 1, math.MaxInt, math.MinInt, math.MinInt + 1, 0x5555555555555555, -0x5555555555555556}
}

// TestP1004Arithmetic holds each operation of two numbers, and of one, at all pairs of edges.
func TestP1004Arithmetic(t *testing.T) {
	two := []string{"add", "sub", "mul", "div", "rem", "and", "or", "xor", "bic", "shl", "shr", "eq", "ne", "lt", "le"}
	for _, a := range edges() {
		for _, b := range edges() {
			for i, op := range two { // in the order of their numbers
				number := api.InsAdd + i
				print := "print c"
				if number >= api.InsEq {
					print = "printbool c"
				}
				s := sample.SSA("main()\n0: a input; b input; c " + op + " a b; " + print + "; return")
				o, _ := start(t, s, []int{a, b}).Run(9)
				want := ""
				switch {
				case (op == "div" || op == "rem") && b == 0:
					want = "stuck zero 3 0 1"
				case (op == "shl" || op == "shr") && b < 0:
					want = "stuck shift 3 0 1"
				case number >= api.InsEq:
					want = strconv.FormatBool(sample.Arithmetic(number, []int{a, b}) == 1) + " exit 5 0 1"
				default:
					want = strconv.Itoa(sample.Arithmetic(number, []int{a, b})) + " exit 5 0 1"
				}
				if told(o) != want {
					t.Errorf("%s of %d and %d: %s, want %s", op, a, b, told(o), want)
				}
			}
		}
		for i, op := range []string{"neg", "inv"} {
			s := sample.SSA("main()\n0: a input; c " + op + " a; print c; return")
			if o, _ := start(t, s, []int{a}).Run(9); told(o) != strconv.Itoa(sample.Arithmetic(api.InsNeg+i, []int{a}))+" exit 4 0 1" {
				t.Errorf("%s of %d: %s", op, a, told(o))
			}
		}
	}
	holdRows(t, inMain([]row{
		{"0: a const -9223372036854775808; b const -1; c div a b; d rem a b; print c; print d; return", nil, "-9223372036854775808 0 exit 7 0 1"},
		{"0: a const -7; b const 2; c div a b; d rem a b; print c; print d; return", nil, "-3 -1 exit 7 0 1"},
		{"0: a const -5; b const 64; c shr a b; d shl a b; print c; print d; return", nil, "-1 0 exit 7 0 1"},
		{"0: a const 5; b const 0; c rem a b; print a; return", nil, "stuck zero 3 0 1"},
		{"0: a const 0; b const -1; c shr a b; print a; return", nil, "stuck shift 3 0 1"},
		{"0: a const true; b not a; c not b; printbool b; printbool c; return", nil, "false true exit 6 0 1"},
		{"0: a const true; b const false; c eq a b; d ne a b; e eq b b; printbool c; printbool d; printbool e; return", nil, "false true true exit 9 0 1"},
		{"0: n const 1; a alloc n; b alloc n; z const nil; c eq a b; d ne a z; e eq a a; printbool c; printbool d; printbool e; return", nil, "false true true exit 11 4 1"},
	}))
}

func TestP1004Blocks(t *testing.T) {
	holdRows(t, inMain([]row{
		// Len
		{"0: a const nil; b len a; print b; return", nil, "0 exit 4 0 1"},
		{"0: n const 5; a alloc n; z const 0; b alloc z; c len a; d len b; print c; print d; return", nil, "5 0 exit 9 7 1"},
		{"0: n const 4611686018427387903; a alloc n; c len a; print c; return", nil, "4611686018427387903 exit 5 4611686018427387904 1"},
		// Load, Store
		{"0: n const 2; a alloc n; i const 0; j const 1; x load a i; store a j n; y load a j; z load a i; print x; print y; print z; return", nil, "0 2 0 exit 12 3 1"},
		{"0: n const 2; a alloc n; b alloc n; i const 1; x const 7; y const 8; store a i x; store b i y; c load a i; d load b i; store a i y; e load a i; print c; print d; print e; return", nil,
			"7 8 8 exit 16 6 1"},
		{"0: n const 2; a alloc n; i const 0; store a i n; m const -9; store a i m; store a i i; c load a i; print c; return", nil, "0 exit 10 3 1"},
		{"0: n const 4611686018427387903; a alloc n; i const 4611686018427387902; store a i n; c load a i; print c; return", nil, "4611686018427387903 exit 7 4611686018427387904 1"},
		// of nil
		{"0: a const nil; i const 0; c load a i; print i; return", nil, "stuck block 3 0 1"},
		{"0: a const nil; i const -1; c load a i; print i; return", nil, "stuck block 3 0 1"},
		{"0: a const nil; i const 0; store a i i; print i; return", nil, "stuck block 3 0 1"},
		{"0: a const nil; i const 9; store a i i; print i; return", nil, "stuck block 3 0 1"},
		{"0: n const 3; b alloc n; a const nil; i const 0; c load a i; print i; return", nil, "stuck block 5 4 1"},
		// beside its words
		{"0: n const 3; a alloc n; i const -1; c load a i; print i; return", nil, "stuck element 4 4 1"},
		{"0: n const 3; a alloc n; c load a n; print n; return", nil, "stuck element 3 4 1"},
		{"0: n const 3; a alloc n; b alloc n; i const 4; c load a i; print i; return", nil, "stuck element 5 8 1"},
		{"0: n const 3; a alloc n; i const 9223372036854775807; c load a i; return", nil, "stuck element 4 4 1"},
		{"0: n const 3; a alloc n; i const -9223372036854775808; c load a i; return", nil, "stuck element 4 4 1"},
		{"0: n const 3; a alloc n; i const -1; store a i n; print n; return", nil, "stuck element 4 4 1"},
		{"0: n const 3; a alloc n; store a n n; print n; return", nil, "stuck element 3 4 1"},
		{"0: n const 3; a alloc n; b alloc n; i const 4; store a i n; c load b n; return", nil, "stuck element 5 8 1"},
		{"0: n const 0; a alloc n; c load a n; return", nil, "stuck element 3 1 1"},
		{"0: n const 0; a alloc n; store a n n; return", nil, "stuck element 3 1 1"},
		// Alloc
		{"0: n const 0; a alloc n; b alloc n; c eq a b; printbool c; return", nil, "false exit 6 2 1"},
		{"0: n const -1; a alloc n; print n; return", nil, "stuck block 2 0 1"},
		{"0: n const -9223372036854775808; a alloc n; print n; return", nil, "stuck block 2 0 1"},
		{"0: n const 3; a alloc n; m const -1; b alloc m; print n; return", nil, "stuck block 4 4 1"},
		{"0: n const 4611686018427387904; a alloc n; print n; return", nil, "panic heap 2 0 1"},
		{"0: n const 9223372036854775807; a alloc n; print n; return", nil, "panic heap 2 0 1"},
		{"0: n const 3; a alloc n; m const 4611686018427387900; b alloc m; print n; return", nil, "panic heap 4 4 1"},
		{"0: n const 3; a alloc n; m const 4611686018427387899; b alloc m; c len b; print c; o const 0; d alloc o; print n; return", nil, "4611686018427387899 panic heap 8 4611686018427387904 1"},
	}))
}

func TestP1004InputAndPrint(t *testing.T) {
	const three = "0: a input; b input; c input; print a; print b; print c; return"
	holdRows(t, inMain([]row{
		{three, []int{7, -8, math.MinInt}, "7 -8 -9223372036854775808 exit 7 0 1"},
		{three, []int{1, 2, 3, 4, 5}, "1 2 3 exit 7 0 1"},
		{three, []int{1, 2}, "panic input 3 0 1"},
		{three, nil, "panic input 1 0 1"},
		{"0: a input; print a; b input; print b; return", []int{math.MaxInt}, "9223372036854775807 panic input 3 0 1"},
		{"0: a const 1; b const true; print a; printbool b; print a; c not b; printbool c; return", nil, "1 true 1 false exit 8 0 1"},
	}))
	// The input is one for all activations.
	holdRows(t, []row{{`main()
		0: a input; b call f; c input; d call f; print a; print b; print c; print d; return
		f() int
		0: a input; return a`, []int{1, 2, 3, 4, 5}, "1 2 3 4 exit 13 0 2"}})
}

func TestP1004Traps(t *testing.T) {
	kinds := []string{"", "divide", "index", "shift", "make", "input"}
	for kind := 1; kind <= 5; kind++ {
		k := strconv.Itoa(kind)
		for _, a := range edges() {
			for _, op := range []string{"trapzero", "trapneg"} {
				want := strconv.Itoa(a) + " exit 4 0 1"
				if op == "trapzero" && a == 0 || op == "trapneg" && a < 0 {
					want = "panic " + kinds[kind] + " 2 0 1"
				}
				s := sample.SSA("main()\n0: a input; " + op + " " + k + " a; print a; return")
				if o, _ := start(t, s, []int{a}).Run(9); told(o) != want {
					t.Errorf("%s %s of %d: %s, want %s", op, k, a, told(o), want)
				}
			}
			for _, b := range edges() {
				want := strconv.Itoa(a) + " exit 5 0 1"
				if a < 0 || a >= b {
					want = "panic " + kinds[kind] + " 3 0 1"
				}
				s := sample.SSA("main()\n0: a input; b input; trapbound " + k + " a b; print a; return")
				if o, _ := start(t, s, []int{a, b}).Run(9); told(o) != want {
					t.Errorf("trapbound %s of %d and %d: %s, want %s", k, a, b, told(o), want)
				}
			}
		}
	}
}

func TestP1004Calls(t *testing.T) {
	holdRows(t, []row{
		// Arguments in their order, of all types.
		{`f(a int, b bool, c ints, d int) int
		0: print a; printbool b; e len c; print e; print d; x sub a d; return x
		main()
		0: a const 9; b const true; n const 3; c alloc n; d const 4; x call f a b c d; print x; return`, nil, "9 true 3 4 5 exit 15 4 2"},
		// Eight of them, and Params that stand in another order than their numbers.
		{`f(a int, b int, c int, d int, e int, f int, g int, h int)
		0: print a; print b; print c; print d; print e; print f; print g; print h; return
		main()
		0: a const 1; b const 2; c const 3; d const 4; e const 5; f const 6; g const 7; h const 8; call f a b c d e f g h; call f h g f e d c b a; return`, nil,
			"1 2 3 4 5 6 7 8 8 7 6 5 4 3 2 1 exit 29 0 2"},
		// One without a result, that does its work; the caller's numbers stay.
		{`main()
		0: n const 2; a alloc n; i const 1; call f a i; x load a i; print x; print n; return
		f(a ints, i int)
		0: x const 77; n const -1; store a i x; return`, nil, "77 2 exit 12 3 2"},
		// Results of all types.
		{`b(x bool) bool
		0: y not x; return y
		l(n int) ints
		0: a alloc n; return a
		none() ints
		0: a const nil; return a
		main()
		0: t const true; u call b t; printbool u; n const 6; a call l n; c len a; print c; d call none; e len d; print e; return`, nil, "false 6 0 exit 17 7 2"},
		// A call with a result that nobody wants; the same function twice, each an activation of its own.
		{`f(x int) int
		0: one const 1; y add x one; print y; return y
		main()
		0: a const 3; b call f a; c call f b; d call f a; print c; return`, nil, "4 5 4 5 exit 18 0 2"},
		// Calls in calls, and one that fails within.
		{`g(x int) int
		0: ten const 10; y div ten x; return y
		f(x int) int
		0: y call g x; z add y y; return z
		main()
		0: a input; b call f a; print b; jump 1
		1: c input; d call f c; print d; return`, []int{5, 0}, "4 stuck zero 15 0 3"},
		{`f()
		0: a const 1; b const 3; print a; panic b
		main()
		0: a const 2; print a; call f; print a; return`, nil, "2 1 panic user 3 7 0 2"},
	})
}

func TestP1004CallsThatCallThemselves(t *testing.T) {
	const sum = `sum(n int) int
		0: zero const 0; c eq n zero; branch c 1 2
		1: return zero
		2: one const 1; m sub n one; x call sum m; y add n x; return y
		main()
		0: n input; x call sum n; print x; return`
	holdRows(t, []row{
		{sum, []int{0}, "0 exit 8 0 2"},
		{sum, []int{1}, "1 exit 16 0 3"},
		{sum, []int{10}, "55 exit 88 0 12"},
		// Two that call each other, and two calls in one activation: what is made ahead of a call is there behind it.
		{`even(n int) bool
		0: zero const 0; c eq n zero; branch c 1 2
		1: return c
		2: one const 1; m sub n one; x call odd m; return x
		odd(n int) bool
		0: zero const 0; c ne n zero; branch c 2 1
		1: return c
		2: one const 1; m sub n one; x call even m; return x
		main()
		0: n input; x call even n; printbool x; y call odd n; printbool y; return`, []int{3}, "false true exit 56 0 5"},
		{`fib(n int) int
		0: two const 2; c lt n two; branch c 1 2
		1: return n
		2: one const 1; m sub n one; k sub n two; x call fib m; y call fib k; z add x y; return z
		main()
		0: n const 5; x call fib n; print x; return`, nil, "5 exit 106 0 6"},
		// main called by main: only the activation with which the run began ends it.
		{`main()
		0: i input; print i; zero const 0; c lt zero i; branch c 1 2
		1: call main; call main; print i; jump 2
		2: return`, []int{2, 1, 0, 0, -1, 9}, "2 1 0 0 1 -1 2 exit 38 0 3"},
		{`main()
		0: call f; one const 1; print one; return
		f()
		0: i input; zero const 0; c eq i zero; branch c 1 2
		1: return
		2: call main; two const 2; print two; return`, []int{1, 0}, "1 2 1 exit 21 0 4"},
	})
}

func TestP1005Terms(t *testing.T) {
	const way = "0: a input; z const 0; c ne a z; d const 1; branch c 1 2\n1: print d; return\n2: print z; return"
	holdRows(t, inMain([]row{
		{"0: return", nil, "exit 1 0 1"},
		{"0: jump 1\n1: jump 2\n2: return", nil, "exit 3 0 1"},
		{"0: jump 2\n1: return\n2: jump 1", nil, "exit 3 0 1"},
		{way, []int{0}, "0 exit 7 0 1"},
		{way, []int{1}, "1 exit 7 0 1"},
		{way, []int{-1}, "1 exit 7 0 1"},
		{"0: a const true; branch a 2 1\n1: return\n2: x const 1; panic x", nil, "panic user 1 4 0 1"},
		{"0: a const false; branch a 2 1\n1: return\n2: x const 1; panic x", nil, "exit 3 0 1"},
		{"0: x const 0; panic x", nil, "panic user 0 2 0 1"},
		{"0: x const -9223372036854775808; print x; panic x", nil, "-9223372036854775808 panic user -9223372036854775808 3 0 1"},
	}))
	m := start(t, sample.SSA("main()\n0: jump 1\n1: jump 1"), nil)
	if o, err := m.Run(1 << 22); err != api.OK || told(o) != "running 4194304 0 1" {
		t.Errorf("a block that jumps to itself: %s %v", told(o), err)
	}
}

// TestP1005ValuesMadeAgain: in a loop a value has the number that was made last.
func TestP1005ValuesMadeAgain(t *testing.T) {
	holdRows(t, inMain([]row{{`0: z const 0; jump 1
		1: i phi.int z k; x input; y mul x x; one const 1; k add i one; n const 3; c lt k n; branch c 1 2
		2: print x; print y; print i; return`, []int{5, 6, 7}, "7 49 2 exit 30 0 1"}}))
}

// TestDeepCalls: no step takes longer for being deep.
func TestDeepCalls(t *testing.T) {
	const deep = 1 << 20
	s := sample.SSA(`down(n int) int
		0: zero const 0; c eq n zero; branch c 1 2
		1: return zero
		2: one const 1; m sub n one; x call down m; y add x one; return y
		main()
		0: n input; x call down n; print x; return`)
	o, _ := start(t, s, []int{deep}).Run(api.MaxFuel)
	if want := strconv.Itoa(deep) + " exit " + strconv.Itoa(8*deep+4+4) + " 0 " + strconv.Itoa(deep+2); told(o) != want {
		t.Errorf("%d calls deep: %s, want %s", deep, told(o), want)
	}
}

// TestDeepCallsOfLongFunctions: an activation does not take memory for values that it has not made.
func TestDeepCallsOfLongFunctions(t *testing.T) {
	const deep = 1 << 15
	s := sample.SSA(`down(n int) int
		0: zero const 0; c eq n zero; branch c 1 2
		1: return zero
		2: one const 1; m sub n one; x call down m; jump 3
		3: return x
		main()
		0: n input; x call down n; print x; return`)
	f := &s.Funcs[0]
	for len(f.Values) < api.MaxRegs-1 {
		f.Blocks[1].Body = append(f.Blocks[1].Body, len(f.Values))
		f.Values = append(f.Values, api.Value{Op: api.InsConst, Type: api.TypeInt})
	}
	m := start(t, s, []int{deep})
	before := taken()
	m.Run(6 * deep)
	if grown := int(taken() - before); grown > 1<<26 {
		t.Errorf("%d calls deep: %d bytes", deep, grown)
	}
	runtime.KeepAlive(m)
}

// TestManyCalls: activations that have ended take no memory.
func TestManyCalls(t *testing.T) {
	s := sample.SSA(`f(n int) int
		0: one const 1; m add n one; return m
		main()
		0: z const 0; jump 1
		1: i phi.int z k; k call f i; jump 1`)
	m := start(t, s, nil)
	before := taken()
	if o, _ := m.Run(2 + 6<<20); told(o) != "running 6291458 0 2" {
		t.Errorf("many calls: %s", told(o))
	}
	if grown := int(taken() - before); grown > 1<<20 {
		t.Errorf("many calls, one behind the other: %d bytes", grown)
	}
	runtime.KeepAlive(m)
}

// taken is how many bytes are in use.
func taken() int64 {
	runtime.GC()
	var stats runtime.MemStats
	runtime.ReadMemStats(&stats)
	return int64(stats.HeapAlloc)
}

// TestEndedRunsLetGo: behind the end, and where it rests, a run keeps no more than its outcome.
func TestEndedRunsLetGo(t *testing.T) {
	s := sample.SSA(`main()
		0: z const 0; n const 100000; a alloc n; jump 1
		1: i phi.int z k; one const 1; k add i one; store a i one; c lt k n; branch c 1 2
		2: return`)
	var ended []*ssarun.Machine
	before := taken()
	for range 10 {
		m := start(t, s, make([]int, 100000))
		m.Run(api.MaxFuel)
		ended = append(ended, m)
	}
	if grown := int(taken() - before); grown > 1<<20 {
		t.Errorf("ten runs that have ended keep %d bytes", grown)
	}
	runtime.KeepAlive(ended)
}

// TestLongBlocks: a function with as many values as there may be.
func TestLongBlocks(t *testing.T) {
	f := api.SFunc{Name: "main", Blocks: []api.Block{{Term: api.Term{Kind: api.TermReturn, Value: -1}}}}
	f.Values = append(f.Values, api.Value{Op: api.InsConst, Type: api.TypeInt, Imm: 1})
	for v := 1; v < api.MaxRegs-2; v++ {
		f.Values = append(f.Values, api.Value{Op: api.InsAdd, Type: api.TypeInt, Args: []int{v - 1, 0}})
	}
	f.Values = append(f.Values, api.Value{Op: api.InsPrintInt, Args: []int{api.MaxRegs - 3}})
	for v := range f.Values {
		f.Blocks[0].Body = append(f.Blocks[0].Body, v)
	}
	o, _ := start(t, api.SSA{Funcs: []api.SFunc{f}}, nil).Run(api.MaxFuel)
	if want := strconv.Itoa(api.MaxRegs-2) + " exit " + strconv.Itoa(api.MaxRegs) + " 0 1"; told(o) != want {
		t.Errorf("%s, want %s", told(o), want)
	}
}

const busy = `f(n int, b bool) int
	0: zero const 0; c eq n zero; branch c 1 2
	1: x input; return x
	2: one const 1; m sub n one; d not b; y call f m d; z add y n; printbool b; return z
	main()
	0: z const 0; t const true; four const 4; a alloc four; jump 1
	1: i phi.int z k; s phi.int z p; one const 1; k add i one; x call f i t; store a i x; p add s x; c lt k four; branch c 1 2
	2: j phi.int i; y load a j; print y; print p; return`

func TestP1006NotChangedNotKept(t *testing.T) {
	input := []int{3, 1, 4, 1, 5}
	want := told(oracleRun(sample.SSA(busy), input, 1000, 1000))
	if !strings.Contains(want, "exit") {
		t.Fatalf("the oracle: %s", want)
	}
	s := sample.Spaced(sample.SSA(busy))
	given := append(slices.Clone(input), 8, 9)[:len(input)]
	before, room := sample.Shape(s), slices.Clone(given[:cap(given)])
	m := start(t, s, given)
	m.Run(1000)
	if sample.Shape(s) != before || !slices.Equal(given[:cap(given)], room) {
		t.Error("what was handed in has changed")
	}
	for spoilt := range 130 {
		s := sample.Spaced(sample.SSA(busy))
		given := append(slices.Clone(input), 8, 9)[:len(input)]
		m := start(t, s, given)
		m.Run(spoilt)
		sample.Spoil(s)
		for i := range given[:cap(given)] {
			given[:cap(given)][i] = -1
		}
		if o, _ := m.Run(1000); told(o) != want {
			t.Fatalf("what was handed in, written over at the step %d: %s, want %s", spoilt, told(o), want)
		}
	}
	for _, x := range sample.Wrongs() { // nor by a call that answers an error
		s := sample.Spaced(x.Program)
		before := sample.Shape(s)
		if _, err := ssarun.New(s, given); err != x.Why || sample.Shape(s) != before || !slices.Equal(given[:cap(given)], room) {
			t.Errorf("%v: what was handed in has changed", err)
		}
	}
}

func TestP1006AnswersAreNewMemory(t *testing.T) {
	input := []int{3, 1, 4, 1, 5}
	m, twin := start(t, sample.SSA(busy), input), start(t, sample.SSA(busy), input)
	for {
		a, b := m.Outcome(), m.Outcome()
		c, _ := m.Run(0)
		want := told(a)
		for _, o := range []api.Outcome{a, c} {
			all := o.Events[:cap(o.Events)]
			for i := range all {
				all[i] = api.Event{Kind: 9, Value: 9}
			}
		}
		if told(b) != want || told(m.Outcome()) != want || told(twin.Outcome()) != want {
			t.Fatalf("an outcome that was written over is to be seen: %s, want %s", told(b), want)
		}
		made := m.Step()
		if made != twin.Step() {
			t.Fatal("of two runs one goes on")
		}
		if !made {
			break
		}
	}
	if o := m.Outcome(); o.End != api.Exit || len(o.Events) != 8 {
		t.Errorf("at the end: %s", told(o))
	}
}

// TestP1006TwoRuns: heaps, inputs and numbers are each run's own.
func TestP1006TwoRuns(t *testing.T) {
	s := sample.SSA(busy)
	inputs := [][]int{{3, 1, 4, 1, 5}, {10, 20, 30, 40}, {1}, nil}
	var runs []*ssarun.Machine
	for _, input := range inputs {
		runs = append(runs, start(t, s, input))
	}
	for steps := range 200 {
		for i, m := range runs {
			if is, want := told(m.Outcome()), told(oracleRun(s, inputs[i], steps, 1000)); is != want {
				t.Fatalf("the run %d at %d steps: %s, want %s", i, steps, is, want)
			}
			m.Step()
		}
	}
}
