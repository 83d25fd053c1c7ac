package lir_test

import (
	"testing"

	"quern/api"
	"quern/lir"
	"quern/sample"
)

func start(t testing.TB, l api.LIR, input []int) *lir.Machine {
	t.Helper()
	m, err := lir.New(l, input)
	if err != api.OK || m == nil {
		t.Fatalf("New: %v of %+v", err, l)
	}
	return m
}

func told(o api.Outcome) string { return sample.Told(o) }

// row is a program with its input, and what its run tells.
type row struct {
	text  string
	input []int
	want  string
}

// holdRows runs each program at once, step by step, and in two pieces at every place.
func holdRows(t *testing.T, rows []row) {
	t.Helper()
	for _, r := range rows {
		l := sample.LIR(r.text)
		if no := sample.Hold(func() sample.Machine { return start(t, l, r.input) }, r.want); no != "" {
			t.Errorf("%s %v:\n%s", r.text, r.input, no)
		}
	}
}

// inMain are rows whose texts are main's blocks.
func inMain(rows []row) []row {
	for i := range rows {
		rows[i].text = "main()\n" + rows[i].text
	}
	return rows
}

const (
	// the chapter's first example
	first = "main() regs 3\n0: r0 const 7; r1 const 0; trapzero 1 r1; r2 div r0 r1; return"
	// and its second one
	second = `twice(r0) int regs 2
		0: r1 add r0 r0; return r1
		main() regs 2
		0: r0 input; r1 call twice r0; print r1; r0 const 2; r1 alloc r0; return`
)

func TestExamplesOfRuns(t *testing.T) {
	m := start(t, sample.LIR(first), nil)
	if is := told(m.Outcome()); is != "running 0 0 1" {
		t.Errorf("m, Outcome: %s", is)
	}
	if o, err := m.Run(2); err != api.OK || told(o) != "running 2 0 1" {
		t.Errorf("m, Run(2): %s %v", told(o), err)
	}
	if o, err := m.Run(-1); err != api.ErrFuel || told(o) != "running 0 0 0" {
		t.Errorf("m, Run(-1): %s %v", told(o), err)
	}
	if o, err := m.Run(9); err != api.OK || told(o) != "panic divide 3 0 1" {
		t.Errorf("m, Run(9): %s %v", told(o), err)
	}
	if m.Step() {
		t.Error("m, a step behind it")
	}
	holdRows(t, inMain([]row{
		{"0: r0 const 7; r1 const 0; r2 div r0 r1; return", nil, "stuck zero 3 0 1"},
		{"0: r0 const 7; r1 const 2; trapzero 1 r1; r2 div r0 r1; panic r0", nil, "panic user 7 5 0 1"},
	}))
	holdRows(t, []row{
		{second, []int{21}, "42 exit 8 3 2"},
		{second, nil, "panic input 1 0 1"},
	})
}

func TestExamplesOfCheck(t *testing.T) {
	holdTurns(t, first, []turn{
		{"nothing", func(l *api.LIR) {}, api.OK},
		{"without r1 = InsConst 0", func(l *api.LIR) {
			b := &l.Funcs[0].Blocks[0]
			b.Body = append(b.Body[:1], b.Body[2:]...)
		}, api.ErrLIRUnset},
		{"a second block that nobody leads to", func(l *api.LIR) {
			l.Funcs[0].Blocks = append(l.Funcs[0].Blocks, api.LBlock{Term: back(-1)})
		}, api.ErrLIRReach},
		{"a trap of the kind PanicUser", func(l *api.LIR) { l.Funcs[0].Blocks[0].Body[2].Imm = api.PanicUser }, api.ErrLIRForm},
		{"named print", func(l *api.LIR) { l.Funcs[0].Name = "print" }, api.ErrLIRForm},
		{"Regs 2", func(l *api.LIR) { l.Funcs[0].Regs = 2 }, api.ErrLIRForm},
		{"Main 1", func(l *api.LIR) { l.Main = 1 }, api.ErrLIRForm},
		{"no block", func(l *api.LIR) { l.Funcs[0].Blocks = nil }, api.ErrLIRForm},
		{"a Term TermReturn 0", func(l *api.LIR) { l.Funcs[0].Blocks[0].Term = back(0) }, api.ErrLIRForm},
	})
	holdTurns(t, second, []turn{
		{"nothing", func(l *api.LIR) {}, api.OK},
		{"Main 0", func(l *api.LIR) { l.Main = 0 }, api.ErrLIRForm},
	})
}

// turn is one thing turned in a program, and what Check says of it then.
type turn struct {
	what string
	turn func(l *api.LIR)
	want api.Errno
}

func holdTurns(t *testing.T, text string, turns []turn) {
	t.Helper()
	for _, x := range turns {
		l := sample.LIR(text)
		x.turn(&l)
		if is := lir.Check(l); is != x.want {
			t.Errorf("%s: %v, want %v", x.what, is, x.want)
		}
		if m, is := lir.New(l, nil); is != x.want || (m == nil) != (is != api.OK) {
			t.Errorf("New, %s: %v, want %v", x.what, is, x.want)
		}
	}
}

func back(value int) api.Term { return api.Term{Kind: api.TermReturn, Value: value} }

func jump(to int) api.Term { return api.Term{Kind: api.TermJump, Value: -1, To: []int{to}} }

func branch(value, yes, no int) api.Term {
	return api.Term{Kind: api.TermBranch, Value: value, To: []int{yes, no}}
}
