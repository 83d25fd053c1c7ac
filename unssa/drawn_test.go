package unssa_test

import (
	"slices"
	"testing"

	"quern/api"
	"quern/dce"
	"quern/dom"
	"quern/sample"
	"quern/ssa"
	"quern/unssa"
)

// counts of what was drawn: a draw of one sort would hold little.
type counts map[string]int

func (c counts) add(what string, is bool) {
	if is {
		c[what]++
	}
}

func (c counts) hold(t *testing.T, least int, all ...string) {
	t.Helper()
	for _, what := range all {
		if c[what] < least {
			t.Errorf("only %d: %s", c[what], what)
		}
	}
	t.Log(c)
}

// met counts what a function has, and what became of it.
func (c counts) met(f api.SFunc, g api.LFunc) {
	for _, w := range ways(f) {
		moves, phis := w.moves(f), len(f.Blocks[w.to(f)].Phis)
		term := f.Blocks[w.from].Term
		often := 0
		for _, m := range moves {
			if m.Dst == len(f.Values) {
				often++
			}
		}
		both := term.Kind == api.TermBranch && term.To[0] == term.To[1]
		c.add("new blocks with moves", w.isNew(f) && len(moves) > 0)
		c.add("new blocks without Phis", w.isNew(f) && phis == 0)
		c.add("new blocks with Phis, without moves", w.isNew(f) && phis > 0 && len(moves) == 0)
		c.add("moves at the end of a branch's block", !w.isNew(f) && term.Kind == api.TermBranch && len(moves) > 0)
		c.add("moves ahead of a jump", term.Kind == api.TermJump && len(moves) > 0)
		c.add("both ways to one block", both && phis == 0)
		c.add("both ways to one block with Phis", both && phis > 0)
		c.add("a jump to its own block", term.Kind == api.TermJump && w.to(f) == w.from && phis > 0)
		c.add("a branch to its own block", term.Kind == api.TermBranch && w.to(f) == w.from && phis > 0)
		c.add("a circle", often > 0)
		c.add("several circles", often > 1)
		c.add("what stays", len(moves)-often < phis)
	}
	c.add("temp", g.Regs > len(f.Values))
}

// holdDrawn holds what is answered of a program against the oracle, and its runs.
func holdDrawn(t *testing.T, d *sample.Dice, s api.SSA, c counts, fuels ...int) {
	t.Helper()
	l, want := lowered(t, s), oracle(s)
	if all(l) != all(want) {
		t.Fatalf("of\n%s\nis made\n%s\nwant\n%s", sample.Tell(s), sample.TellLIR(l), sample.TellLIR(want))
	}
	for i, f := range s.Funcs {
		c.met(f, l.Funcs[i])
	}
	input := d.Input()
	for _, fuel := range fuels {
		o := holdRun(t, s, l, input, fuel)
		c.add([]string{"running", "exit", "panic", "stuck"}[o.End], true)
		c.add("deep", o.Depth > 1)
		c.add("words", o.Words > 0)
		c.add("events", len(o.Events) > 3)
	}
}

func TestDrawnAgainstOracle(t *testing.T) {
	d, c := sample.Dice(20261117), counts{}
	for range 5000 {
		holdDrawn(t, &d, sample.DrawSSA(&d), c, d.Below(60), 250)
	}
	c.hold(t, 20, "new blocks with moves", "new blocks without Phis", "moves at the end of a branch's block", "moves ahead of a jump",
		"both ways to one block", "both ways to one block with Phis", "a jump to its own block", "a branch to its own block", "a circle", "what stays",
		"running", "exit", "panic", "stuck", "deep", "words", "events")
}

// TestDrawnTexts lowers what was made of texts, as built and as cleaned: it is never stuck.
func TestDrawnTexts(t *testing.T) {
	d, c := sample.Dice(1506), counts{}
	for i := range 1500 {
		s := sample.Built(sample.DrawText(&d, 3+d.Below(40), i%2 == 0))
		holdDrawn(t, &d, s, c, d.Below(60), 250)
		clean, _ := dce.Clean(s)
		holdDrawn(t, &d, clean, c, d.Below(60), 250)
	}
	if c["stuck"] > 0 {
		t.Errorf("stuck: %d runs", c["stuck"])
	}
	c.hold(t, 20, "new blocks without Phis", "moves ahead of a jump", "what stays", "running", "exit", "panic", "deep", "words", "events")
}

// drawPhis draws a main of blocks in loops with Phis, each of which tells them all: Args are mostly Phis of the same block, for the ways from where it is over.
func drawPhis(d *sample.Dice) api.SSA {
	f := api.SFunc{Name: "main"}
	add := func(v api.Value) int {
		f.Values = append(f.Values, v)
		return len(f.Values) - 1
	}
	n := 2 + d.Below(5)
	f.Blocks = make([]api.Block, n)
	for i := range 4 {
		f.Blocks[0].Body = append(f.Blocks[0].Body, add(api.Value{Op: api.InsConst, Type: 1 + i%2, Imm: i / 2}))
	}
	f.Blocks[0].Term = jump(1)
	for b := 1; b < n; b++ {
		block := &f.Blocks[b]
		for i := range 2 + d.Below(8) {
			block.Phis = append(block.Phis, add(api.Value{Op: api.InsPhi, Type: 1 + min(i%4, 1)}))
		}
		for _, phi := range block.Phis {
			block.Body = append(block.Body, add(api.Value{Op: []int{0, api.InsPrintInt, api.InsPrintBool}[f.Values[phi].Type], Args: []int{phi}}))
		}
		block.Term = drawTerm(d, b, n, block.Phis[1])
	}
	for b, block := range f.Blocks {
		for _, to := range block.Term.To {
			f.Blocks[to].Preds = append(f.Blocks[to].Preds, b)
		}
	}
	setArgs(d, &f)
	return api.SSA{Funcs: []api.SFunc{f}}
}

// drawTerm draws the end of the block b of n: it leads on, and mostly back or to itself.
func drawTerm(d *sample.Dice, b, n, value int) api.Term {
	on, other := b+1, d.OneOf(b, b, 1+d.Below(n-1))
	if on == n {
		on = d.OneOf(b, 1+d.Below(n-1))
		if d.Below(4) == 0 {
			return back(-1)
		}
	}
	switch d.Below(5) {
	case 0:
		return jump(on)
	case 1, 2:
		return branch(value, on, other)
	}
	return branch(value, other, on)
}

// setArgs draws the Args of all Phis: for a way from a block that theirs dominates mostly the Phis themselves, in another order.
func setArgs(d *sample.Dice, f *api.SFunc) {
	to := make([][]int, len(f.Blocks))
	for b, block := range f.Blocks {
		to[b] = block.Term.To
	}
	tree := dom.Tree(to)
	for b, block := range f.Blocks {
		for _, from := range block.Preds {
			may := slices.Concat(f.Blocks[0].Body, f.Blocks[from].Phis)
			mixed := slices.Clone(block.Phis)
			for i := range mixed {
				j := d.Below(i + 1)
				if f.Values[mixed[i]].Type == f.Values[mixed[j]].Type {
					mixed[i], mixed[j] = mixed[j], mixed[i]
				}
			}
			for i, phi := range block.Phis {
				x := &f.Values[phi]
				if dom.Over(tree, b, from) && d.Below(8) > 0 {
					x.Args = append(x.Args, mixed[i])
					continue
				}
				fit := slices.DeleteFunc(slices.Clone(may), func(v int) bool { return f.Values[v].Type != x.Type })
				x.Args = append(x.Args, fit[d.Below(len(fit))])
			}
		}
	}
}

// TestDrawnPhis: many circles.
func TestDrawnPhis(t *testing.T) {
	d, c := sample.Dice(1504), counts{}
	for range 3000 {
		s := sample.Mixed(&d, drawPhis(&d))
		if e := ssa.Check(s); e != api.OK {
			t.Fatalf("%v:\n%s", e, sample.Tell(s))
		}
		holdDrawn(t, &d, s, c, 100)
	}
	c.hold(t, 50, "new blocks with moves", "new blocks with Phis, without moves", "moves at the end of a branch's block", "moves ahead of a jump",
		"both ways to one block with Phis", "a jump to its own block", "a branch to its own block", "a circle", "several circles", "what stays", "temp", "running", "exit", "events")
}

// TestDrawnWrong: what ssa.Check refuses is refused with its error, whatever stands ahead of it.
func TestDrawnWrong(t *testing.T) {
	d := sample.Dice(1501)
	for range 300 {
		for _, x := range sample.Wrongs() {
			s := sample.DrawSSA(&d)
			wrong := x.Program.Funcs[0]
			if wrong.Name == "main" {
				wrong.Name = "wrong"
			}
			s.Funcs = append(s.Funcs, wrong)
			if l, e := unssa.Lower(s); e != x.Why || l.Funcs != nil || l.Main != 0 {
				t.Fatalf("%v, want %v", e, x.Why)
			}
		}
	}
}
