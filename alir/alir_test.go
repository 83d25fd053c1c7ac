package alir_test

import (
	"testing"

	"quern/alir"
	"quern/api"
	"quern/sample"
)

func start(t testing.TB, a api.ALIR, input []int) *alir.Machine {
	t.Helper()
	m, err := alir.New(a, input)
	if err != api.OK || m == nil {
		t.Fatalf("New: %v of %+v", err, a)
	}
	return m
}

func told(o api.Outcome) string { return sample.Told(o) }

// row is a program with its input, and what its run tells.
type row struct {
	text  string
	input []int
	want  string
}

// holdRows runs each program at once, step by step, and in two pieces at every place.
func holdRows(t *testing.T, rows []row) {
	t.Helper()
	for _, r := range rows {
		a := sample.ALIR(r.text)
		if no := sample.Hold(func() sample.Machine { return start(t, a, r.input) }, r.want); no != "" {
			t.Errorf("%s %v:\n%s", r.text, r.input, no)
		}
	}
}

// inMain are rows whose texts are main's blocks.
func inMain(rows []row) []row {
	for i := range rows {
		rows[i].text = "main()\n" + rows[i].text
	}
	return rows
}

// turn is one thing turned in a program, and what Check says of it then.
type turn struct {
	what string
	turn func(a *api.ALIR)
	want api.Errno
}

func holdTurns(t *testing.T, text string, turns []turn) {
	t.Helper()
	for _, x := range turns {
		a := sample.ALIR(text)
		x.turn(&a)
		holdCheck(t, x.what, a, x.want)
	}
}

// holdCheck holds what Check says, and New, also where the input is too long.
func holdCheck(t *testing.T, what string, a api.ALIR, want api.Errno) {
	t.Helper()
	if is := alir.Check(a); is != want {
		t.Errorf("%s: %v, want %v", what, is, want)
	}
	if m, is := alir.New(a, nil); is != want || (m == nil) != (want != api.OK) {
		t.Errorf("New, %s: %v, want %v", what, is, want)
	}
	if want != api.OK {
		if m, is := alir.New(a, tooLong()); is != want || m != nil {
			t.Errorf("New with too long an input, %s: %v, want %v", what, is, want)
		}
	}
}

func reg(n int) api.Loc { return api.Loc{Kind: api.LocReg, N: n} }

func slot(n int) api.Loc { return api.Loc{Kind: api.LocSlot, N: n} }

func back(value api.Loc) api.ATerm { return api.ATerm{Kind: api.TermReturn, Value: value} }

func jump(to int) api.ATerm { return api.ATerm{Kind: api.TermJump, To: []int{to}} }

// example is the chapter's.
const example = `seven() int
	0: r0 const 7; return r0
	main() slots 1
	0: r0 input; r1 call seven save 0; print r0; print r1; s0 move r1; call seven; print r1; print s0; return`

func TestExamplesOfRuns(t *testing.T) {
	holdRows(t, []row{{example, []int{3}, "3 7 -1 7 exit 13 0 2"}})
	m := start(t, sample.ALIR(example), []int{3})
	if o, err := m.Run(100); err != api.OK || told(o) != "3 7 -1 7 exit 13 0 2" {
		t.Errorf("Run(100): %s %v", told(o), err)
	}
	m = start(t, sample.ALIR(example), []int{3})
	if o, err := m.Run(1); err != api.OK || told(o) != "running 1 0 1" {
		t.Errorf("Run(1): %s %v", told(o), err)
	}
	if o, err := m.Run(2); err != api.OK || told(o) != "running 3 0 2" {
		t.Errorf("Run(2): %s %v", told(o), err)
	}
}

func TestExamplesOfCheck(t *testing.T) {
	body := func(a *api.ALIR) []api.AIns { return a.Funcs[1].Blocks[0].Body }
	holdTurns(t, example, []turn{
		{"nothing", func(a *api.ALIR) {}, api.OK},
		{"Saves 0 0", func(a *api.ALIR) { body(a)[1].Saves = []int{0, 0} }, api.ErrALIRForm},
		{"Saves 8", func(a *api.ALIR) { body(a)[1].Saves = []int{8} }, api.ErrALIRForm},
		{"Saves 0 of an InsPrintInt", func(a *api.ALIR) { body(a)[2].Saves = []int{0} }, api.ErrALIRForm},
		{"Slots 0", func(a *api.ALIR) { a.Funcs[1].Slots = 0 }, api.ErrALIRForm},
		{"Main 0", func(a *api.ALIR) { a.Main = 0 }, api.ErrALIRForm},
		{"a Dst {LocNum, 1}", func(a *api.ALIR) { body(a)[0].Dst = api.Loc{Kind: api.LocNum, N: 1} }, api.ErrALIRForm},
	})
}
