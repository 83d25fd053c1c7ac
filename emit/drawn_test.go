package emit_test

import (
	"slices"
	"testing"

	"quern/alloc"
	"quern/api"
	"quern/dce"
	"quern/sample"
	"quern/unssa"
)

// counts of what was drawn: a draw of one sort would hold little.
type counts map[string]int

func (c counts) add(what string, is bool) {
	if is {
		c[what]++
	}
}

func (c counts) hold(t *testing.T, least int, all ...string) {
	t.Helper()
	for _, what := range all {
		if c[what] < least {
			t.Errorf("only %d: %s", c[what], what)
		}
	}
	t.Log(c)
}

// met counts what a function has.
func (c counts) met(f api.AFunc) {
	saves := map[int]int{}
	slots := func(list ...api.Loc) bool {
		return slices.ContainsFunc(list, func(p api.Loc) bool { return p.Kind == api.LocSlot })
	}
	c.add("Params", len(f.Params) > 0)
	c.add("a Param in a slot", slots(f.Params...))
	for i, b := range f.Blocks {
		for _, x := range b.Body {
			for _, r := range x.Saves {
				saves[r]++
			}
			if x.Op == api.InsCall {
				c.add("a call with a Dst in a register", x.Dst.Kind == api.LocReg)
				c.add("a call with a Dst that is saved", x.Dst.Kind == api.LocReg && slices.Contains(x.Saves, x.Dst.N))
				c.add("a call with a Dst in a slot", slots(x.Dst))
				c.add("a call without a Dst", x.Dst.Kind == 0)
				c.add("a call with an Arg in a slot", slots(x.Args...))
				c.add("a call that saves", len(x.Saves) > 0)
				c.add("a call that does not", len(x.Saves) == 0)
			} else {
				c.add("an Arg in a slot", slots(x.Args...))
				c.add("a Dst in a slot", slots(x.Dst))
				c.add("a store from a slot", x.Op == api.InsStore && slots(x.Args[2]))
				c.add("a move of a slot to a slot", x.Op == api.InsMove && slots(x.Args...) && slots(x.Dst))
			}
		}
		c.add("a block with no instruction", len(b.Body) == 0 && slices.Equal(b.Term.To, []int{i + 1}))
		c.add("a jump to what follows", len(b.Term.To) == 1 && b.Term.To[0] == i+1)
		c.add("a jump elsewhere", len(b.Term.To) == 1 && b.Term.To[0] != i+1)
		if len(b.Term.To) == 2 {
			c.add("a branch, the first follows", b.Term.To[0] == i+1)
			c.add("a branch, the second follows", b.Term.To[0] != i+1 && b.Term.To[1] == i+1)
			c.add("a branch, none follows", b.Term.To[0] != i+1 && b.Term.To[1] != i+1)
		}
		c.add("an end with a slot", slots(b.Term.Value))
	}
	c.add("some saved", len(saves) > 0 && len(saves) < api.Allocated)
	c.add("all saved", len(saves) == api.Allocated)
}

var ordinary = []string{"Params", "a Param in a slot", "a call with a Dst in a register", "a call with a Dst in a slot", "a call without a Dst", "a call with an Arg in a slot", "a call that saves", "a call that does not",
	"an Arg in a slot", "a Dst in a slot", "a block with no instruction", "a jump to what follows", "a jump elsewhere",
	"a branch, the first follows", "a branch, the second follows", "a branch, none follows", "an end with a slot", "some saved"}

func (c counts) ended(o api.Outcome) {
	c.add([]string{"running", "exit", "panic", "stuck"}[o.End], true)
	c.add("deep", o.Depth > 2)
	c.add("words", o.Words > 0)
	c.add("events", len(o.Events) > 3)
}

func holdDrawn(t *testing.T, a api.ALIR, c counts) api.Code {
	t.Helper()
	for _, f := range a.Funcs {
		c.met(f)
	}
	return hold(t, a)
}

// TestDrawnAgainstOracle draws programs with places that several registers share; and such whose runs read what holds no -1 of P1904.
func TestDrawnAgainstOracle(t *testing.T) {
	d, c := sample.Dice(20261119), counts{}
	for range 10000 {
		a := sample.DrawALIR(&d)
		code := holdDrawn(t, a, c)
		input := d.Input()
		if reads := readsUnset(a, input, 250); !reads {
			c.ended(holdRuns(t, a, code, input, 250))
		}
	}
	c.hold(t, 100, slices.Concat(ordinary, []string{"all saved", "a call with a Dst that is saved", "a store from a slot", "a move of a slot to a slot", "exit", "panic", "stuck", "words", "events"})...)
}

// TestDrawnPlaced takes LIR with a place of its own for each register, and calls that save all.
func TestDrawnPlaced(t *testing.T) {
	d, c := sample.Dice(2308), counts{}
	for range 5000 {
		a := sample.Placed(&d, sample.DrawLIR(&d))
		code := holdDrawn(t, a, c)
		c.ended(holdRuns(t, a, code, d.Input(), 250))
	}
	c.hold(t, 100, "Params", "a Param in a slot", "a call with a Dst that is saved", "all saved", "running", "exit", "panic", "stuck", "deep", "words", "events")
}

// TestDrawnAllocated takes what alloc.Allocate makes of LIR.
func TestDrawnAllocated(t *testing.T) {
	d, c := sample.Dice(20), counts{}
	for range 5000 {
		a, e := alloc.Allocate(sample.DrawLIR(&d))
		if e != api.OK {
			t.Fatal(e)
		}
		code := holdDrawn(t, a, c)
		c.ended(holdRuns(t, a, code, d.Input(), 250))
	}
	c.hold(t, 30, slices.Concat(ordinary, []string{"running", "exit", "panic", "stuck", "deep", "words", "events"})...)
}

// TestDrawnTexts takes what was made of texts, as built and as cleaned: it is never stuck.
func TestDrawnTexts(t *testing.T) {
	d, c := sample.Dice(2301), counts{}
	for i := range 2000 {
		s := sample.Built(sample.DrawText(&d, 3+d.Below(60), i%2 == 0))
		if i%3 == 0 {
			s, _ = dce.Clean(s)
		}
		l, _ := unssa.Lower(s)
		a, e := alloc.Allocate(l)
		if e != api.OK {
			t.Fatal(e)
		}
		code := holdDrawn(t, a, c)
		c.ended(holdRuns(t, a, code, d.Input(), 400))
	}
	if c["stuck"] > 0 {
		t.Errorf("stuck: %d runs", c["stuck"])
	}
	c.hold(t, 20, "Params", "a call with a Dst in a register", "a call that saves", "a call that does not", "an Arg in a slot", "a Dst in a slot", "a jump to what follows", "a jump elsewhere",
		"a branch, the first follows", "some saved", "running", "exit", "panic", "deep", "words", "events")
}
