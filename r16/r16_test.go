package r16_test

import (
	"testing"

	"quern/api"
	"quern/r16"
	"quern/sample"
)

// wide are limits at which no run of these tests comes.
var wide = api.Limits{Stack: api.MaxStack, Heap: api.MaxHeap}

func start(t testing.TB, c api.Code, input []int, limits api.Limits) *r16.Machine {
	t.Helper()
	m, err := r16.New(c, input, limits)
	if err != api.OK || m == nil {
		t.Fatalf("New: %v of %+v", err, c)
	}
	return m
}

func told(o api.Outcome) string { return sample.Told(o) }

// row is code with its input, and what its run tells.
type row struct {
	text  string
	input []int
	want  string
}

// holdRows runs each code at once, step by step, and in two pieces at every place, with just these limits.
func holdRows(t *testing.T, limits api.Limits, rows []row) {
	t.Helper()
	for _, r := range rows {
		c := sample.Code(r.text)
		if no := sample.Hold(func() sample.Machine { return start(t, c, r.input, limits) }, r.want); no != "" {
			t.Errorf("%s %v:\n%s", r.text, r.input, no)
		}
	}
}

// inMain are rows whose texts are main's instructions.
func inMain(rows []row) []row {
	for i := range rows {
		rows[i].text = "main()\n0: " + rows[i].text
	}
	return rows
}

// turn is one thing turned in code, and whether Check takes it then.
type turn struct {
	what string
	turn func(c *api.Code)
	is   bool
}

func holdTurns(t *testing.T, text string, turns []turn) {
	t.Helper()
	for _, x := range turns {
		c := sample.Code(text)
		x.turn(&c)
		holdCheck(t, x.what, c, x.is)
	}
}

// holdCheck holds what Check says, and New, also where the input and the limits may not be.
func holdCheck(t *testing.T, what string, c api.Code, fits bool) {
	t.Helper()
	want := wantIf(fits)
	if is := r16.Check(c); is != want {
		t.Errorf("%s: %v, want %v", what, is, want)
	}
	if m, is := r16.New(c, nil, wide); is != want || (m == nil) != (want != api.OK) {
		t.Errorf("New, %s: %v, want %v", what, is, want)
	}
	if want != api.OK {
		if m, is := r16.New(c, tooLong, api.Limits{Stack: -1, Heap: -1}); is != want || m != nil {
			t.Errorf("New with too long an input and wrong limits, %s: %v, want %v", what, is, want)
		}
	}
}

func wantIf(is bool) api.Errno {
	if is {
		return api.OK
	}
	return api.ErrCodeForm
}

var tooLong = make([]int, api.MaxInput+1)

// The chapter's examples.
const (
	exampleP = `main() frame 3
	0: inp r0; trapz r0 1; ldi r1 100; div r1 r1 r0; sts r1 2; lds r2 2; outi r2; ret`
	exampleQ = `main() frame 2
	0: call down; ret
	down(1) frame 4
	2: sts r0 3; call down; ret`
)

func TestExamplesOfRuns(t *testing.T) {
	three := api.Limits{Stack: 3}
	holdRows(t, three, []row{
		{exampleP, []int{7}, "14 exit 8 0 1"},
		{exampleP, []int{0}, "panic divide 2 0 1"},
	})
	if o, err := start(t, sample.Code(exampleP), []int{7}, three).Run(100); err != api.OK || told(o) != "14 exit 8 0 1" {
		t.Errorf("New(p, 7), Run(100): %s %v", told(o), err)
	}
	if o, err := start(t, sample.Code(exampleP), []int{0}, three).Run(100); err != api.OK || told(o) != "panic divide 2 0 1" {
		t.Errorf("New(p, 0), Run(100): %s %v", told(o), err)
	}
	m := start(t, sample.Code(exampleP), []int{7}, api.Limits{Stack: 2})
	if is := told(m.Outcome()); is != "panic stack 0 0 0" || m.Step() {
		t.Errorf("New(p, 7, Stack 2): %s", is)
	}
	for _, limits := range []api.Limits{{Stack: -1, Heap: 0}, {Stack: 3, Heap: api.MaxHeap + 1}} {
		if m, err := r16.New(sample.Code(exampleP), nil, limits); m != nil || err != api.ErrLimits {
			t.Errorf("New(p, none, %+v): %v", limits, err)
		}
	}
	holdRows(t, api.Limits{Stack: 13}, []row{{exampleQ, nil, "panic stack 5 0 3"}})
}

func TestExamplesOfCheck(t *testing.T) {
	put := func(at int, x api.Ins) func(c *api.Code) { return func(c *api.Code) { c.Ins[at] = x } }
	holdTurns(t, exampleP, []turn{
		{"nothing", func(c *api.Code) {}, true},
		{"without 7", func(c *api.Code) { c.Ins = c.Ins[:7] }, false},
		{"without 7, Count 7", func(c *api.Code) { c.Ins, c.Funcs[0].Count = c.Ins[:7], 7 }, false},
		{"RLds 2, 3", put(5, api.Ins{Op: api.RLds, A: 2, N: 3}), false},
		{"RLds 2, 1", put(5, api.Ins{Op: api.RLds, A: 2, N: 1}), false},
		{"RSts 16, 2", put(4, api.Ins{Op: api.RSts, A: 16, N: 2}), false},
		{"RJmp 8", put(7, api.Ins{Op: api.RJmp, N: 8}), false},
		{"RJmp 8 further up", put(3, api.Ins{Op: api.RJmp, N: 8}), false},
		{"Frame 1", func(c *api.Code) { c.Funcs[0].Frame = 1 }, false},
		{"RTrapZ 0, PanicUser", put(1, api.Ins{Op: api.RTrapZ, N: api.PanicUser}), false},
		{"Count 7", func(c *api.Code) { c.Funcs[0].Count = 7 }, false},
		{"C 1 in RRet", put(7, api.Ins{Op: api.RRet, C: 1}), false},
	})
}

// TestExampleOfFrames has q's frames in words: when both activations of down have ended, one of look, whose frame is great, tells what they have left.
func TestExampleOfFrames(t *testing.T) {
	// look's frame begins at the word 2 of the stack; its own words 0 and 1 can't be read.
	const text = `main() frame 2
		0: ldi r0 70; call down; call look; ret
		down(1) frame 4
		4: sts r0 3; ldi r1 71; eq r1 r0 r1; bnz r1 11; ldi r0 71; call down; ret; ret
		look() frame 11
		12: lds r5 2; outi r5; lds r5 3; outi r5; lds r5 4; outi r5; lds r5 5; outi r5; lds r5 6; outi r5; lds r5 7; outi r5; lds r5 8; outi r5; ret`
	// The words 4 to 10: of down's first frame nothing and 70; of its second one 10 (behind the call), 2 (the first one's beginning), nothing and 71; nothing.
	holdRows(t, api.Limits{Stack: 13}, []row{{text, nil, "0 70 10 2 0 71 0 exit 31 0 3"}})
}
