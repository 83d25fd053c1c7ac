package dce_test

import (
	"slices"
	"testing"

	"quern/api"
	"quern/dce"
	"quern/sample"
	"quern/ssarun"
)

// The oracle asks the chapter's sentences one by one, with no thought of time.

// oracleWanted tells which values of a function are wanted.
func oracleWanted(f api.SFunc) []bool {
	is := make([]bool, len(f.Values))
	for _, p := range f.Params {
		is[p] = true
	}
	for v, x := range f.Values {
		switch x.Op {
		case api.InsStore, api.InsAlloc, api.InsInput, api.InsCall, api.InsPrintInt, api.InsPrintBool, api.InsTrapZero, api.InsTrapNeg, api.InsTrapBound:
			is[v] = true
		}
	}
	for _, b := range f.Blocks {
		if b.Term.Value != -1 {
			is[b.Term.Value] = true
		}
	}
	for range f.Values { // a further one each time, if there is one
		for v, x := range f.Values {
			for _, a := range x.Args {
				is[a] = is[a] || is[v]
			}
		}
	}
	return is
}

// oracle tells what is left of a program.
func oracle(s api.SSA) api.SSA {
	c := api.SSA{Main: s.Main}
	for _, f := range s.Funcs {
		is := oracleWanted(f)
		left := func(list []int) []int { // in their order
			return slices.DeleteFunc(slices.Clone(list), func(v int) bool { return !is[v] })
		}
		order := slices.Clone(f.Params)
		for _, b := range f.Blocks {
			order = slices.Concat(order, left(b.Phis), left(b.Body))
		}
		anew := func(list []int) (numbers []int) {
			for _, v := range list {
				numbers = append(numbers, slices.Index(order, v))
			}
			return numbers
		}
		g := api.SFunc{Name: f.Name, Params: anew(f.Params), Result: f.Result}
		for _, v := range order {
			x := f.Values[v]
			g.Values = append(g.Values, api.Value{Op: x.Op, Type: x.Type, Imm: x.Imm, Args: anew(x.Args)})
		}
		for _, b := range f.Blocks { // (the Value -1 stands in no list, and so stays -1)
			g.Blocks = append(g.Blocks, api.Block{Phis: anew(left(b.Phis)), Body: anew(left(b.Body)), Preds: b.Preds,
				Term: api.Term{Kind: b.Term.Kind, Value: slices.Index(order, b.Term.Value), To: b.Term.To}})
		}
		c.Funcs = append(c.Funcs, g)
	}
	return c
}

// same tells whether two programs are, in all that they have.
func same(a, b api.SSA) bool {
	value := func(x, y api.Value) bool {
		return x.Op == y.Op && x.Type == y.Type && x.Imm == y.Imm && slices.Equal(x.Args, y.Args)
	}
	block := func(x, y api.Block) bool {
		return slices.Equal(x.Phis, y.Phis) && slices.Equal(x.Body, y.Body) && slices.Equal(x.Preds, y.Preds) &&
			x.Term.Kind == y.Term.Kind && x.Term.Value == y.Term.Value && slices.Equal(x.Term.To, y.Term.To)
	}
	return a.Main == b.Main && slices.EqualFunc(a.Funcs, b.Funcs, func(x, y api.SFunc) bool {
		return x.Name == y.Name && x.Result == y.Result && slices.Equal(x.Params, y.Params) &&
			slices.EqualFunc(x.Values, y.Values, value) && slices.EqualFunc(x.Blocks, y.Blocks, block)
	})
}

func run(t testing.TB, s api.SSA, input []int, fuel int) api.Outcome {
	t.Helper()
	m, e := ssarun.New(s, input)
	if e != api.OK {
		t.Fatalf("New: %v", e)
	}
	o, _ := m.Run(fuel)
	return o
}

func begins(long, short []api.Event) bool {
	return len(short) <= len(long) && slices.Equal(short, long[:len(short)])
}

// holdRun asks what P1203 says of a program's run with so much fuel, and tells its outcome.
func holdRun(t *testing.T, whole, left api.SSA, input []int, fuel int) api.Outcome {
	t.Helper()
	a, b := run(t, whole, input, fuel), run(t, left, input, fuel)
	holds := begins(b.Events, a.Events)
	if a.End == api.Exit || a.End == api.Panic {
		holds = holds && len(a.Events) == len(b.Events) && a.End == b.End && a.Kind == b.Kind && a.Value == b.Value &&
			a.Words == b.Words && a.Depth == b.Depth && b.Steps <= a.Steps
	}
	if a.End == api.Running { // it has gone at least as far, and not another way
		more := run(t, whole, input, 50*fuel)
		holds = holds && a.Words <= b.Words && a.Depth <= b.Depth &&
			(more.End == api.Stuck || begins(more.Events, b.Events) && b.Words <= more.Words && b.Depth <= more.Depth)
	}
	if !holds {
		t.Fatalf("P1203: %d steps, input %v:\n%+v\nwhat is left:\n%+v\nof\n%s", fuel, input, a, b, sample.Tell(whole))
	}
	return a
}

// counts of what was drawn: a draw of one sort would hold little.
type counts map[string]int

func (c counts) add(what string, is bool) {
	if is {
		c[what]++
	}
}

func (c counts) hold(t *testing.T, least int, all ...string) {
	t.Helper()
	for _, what := range all {
		if c[what] < least {
			t.Errorf("only %d: %s", c[what], what)
		}
	}
	t.Log(c)
}

func size(s api.SSA) (n int) {
	for _, f := range s.Funcs {
		n += len(f.Values)
	}
	return n
}

func phis(s api.SSA) (n int) {
	for _, f := range s.Funcs {
		for _, b := range f.Blocks {
			n += len(b.Phis)
		}
	}
	return n
}

// holdDrawn holds what is left of a program against the oracle, and its runs.
func holdDrawn(t *testing.T, d *sample.Dice, s api.SSA, c counts) {
	t.Helper()
	left, want := cleaned(t, s), oracle(s)
	if !same(left, want) {
		t.Fatalf("of\n%s\nis left\n%s\nwant\n%s", sample.Tell(s), sample.Tell(left), sample.Tell(want))
	}
	if mixed := cleaned(t, sample.Mixed(d, s)); !same(mixed, want) {
		t.Fatalf("P1202: by other numbers:\n%s\nwant\n%s", sample.Tell(mixed), sample.Tell(want))
	}
	c.add("nothing taken away", size(left) == size(s))
	c.add("much taken away", size(left)*2 < size(s))
	c.add("phis taken away", phis(left) < phis(s))
	c.add("phis left", phis(left) > 0)
	input := d.Input()
	for _, fuel := range []int{d.Below(60), 250} {
		o := holdRun(t, s, left, input, fuel)
		c.add([]string{"running", "exit", "panic", "stuck"}[o.End], true)
		c.add("deep", o.Depth > 1)
		c.add("words", o.Words > 0)
		c.add("events", len(o.Events) > 3)
		c.add("gone on where the whole is stuck", o.End == api.Stuck && run(t, left, input, fuel).End != api.Stuck)
	}
}

func TestDrawnAgainstOracle(t *testing.T) {
	d, c := sample.Dice(20261117), counts{}
	for range 4000 {
		holdDrawn(t, &d, sample.DrawSSA(&d), c)
	}
	c.hold(t, 20, "much taken away", "phis taken away", "phis left", "running", "exit", "panic", "stuck", "deep", "words", "events",
		"gone on where the whole is stuck")
}

// TestDrawnTexts cleans what was made of texts: it is never stuck, and every value is wanted.
func TestDrawnTexts(t *testing.T) {
	d, c := sample.Dice(1203), counts{}
	for i := range 1500 {
		s := sample.Built(sample.DrawText(&d, 3+d.Below(40), i%2 == 0))
		holdDrawn(t, &d, s, c)
	}
	if c["stuck"] > 0 {
		t.Errorf("stuck: %d runs", c["stuck"])
	}
	c.hold(t, 20, "nothing taken away", "phis taken away", "phis left", "running", "exit", "panic", "deep", "words", "events")
}

// TestDrawnWrong: what ssa.Check refuses is refused with its error, whatever stands ahead of it.
func TestDrawnWrong(t *testing.T) {
	d := sample.Dice(1201)
	for range 300 {
		for _, x := range sample.Wrongs() {
			s := sample.DrawSSA(&d)
			wrong := x.Program.Funcs[0]
			if wrong.Name == "main" {
				wrong.Name = "wrong"
			}
			s.Funcs = append(s.Funcs, wrong)
			if c, e := dce.Clean(s); e != x.Why || c.Funcs != nil || c.Main != 0 {
				t.Fatalf("%v, want %v", e, x.Why)
			}
		}
	}
}
