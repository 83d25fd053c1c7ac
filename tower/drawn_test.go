package tower_test

import (
	"testing"

	"quern/api"
	"quern/sample"
)

// counts of what was drawn: a draw of one sort would hold little.
type counts map[string]int

func (c counts) add(what string, is bool) {
	if is {
		c[what]++
	}
}

func (c counts) hold(t *testing.T, least int, all ...string) {
	t.Helper()
	for _, what := range all {
		if c[what] < least {
			t.Errorf("only %d: %s", c[what], what)
		}
	}
	t.Log(c)
}

// drawn is a script of a text: tight limits or wide ones, few steps or many.
func drawn(d *sample.Dice, text string) api.Script {
	s := script(text, d.Input(), api.MaxStack, api.MaxHeap, d.Below(100))
	if d.Below(2) == 0 {
		s.Limits = api.Limits{Stack: d.Below(40), Heap: d.Below(20)}
	}
	if d.Below(3) == 0 {
		s.Fuel = d.Below(12)
	}
	return s
}

// TestP2502Drawn draws scripts: Run tells what runs of their own do, Holds that all is well.
func TestP2502Drawn(t *testing.T) {
	t.Parallel()
	d, c := sample.Dice(2502), counts{}
	for i := range 700 {
		s := drawn(&d, sample.DrawText(&d, 3+d.Below(40), i%2 == 0))
		m := all(t, string(s.Text))
		list := ran(t, s)
		if is, want := told(list), told(wanted(m, s)); is != want {
			t.Fatalf("P2502: %v %+v fuel %d:\n%swant\n%sof\n%s", s.Input, s.Limits, s.Fuel, is, want, s.Text)
		}
		holds(t, s)
		for level, o := range list {
			c.add([]string{"running", "exit", "panic", "stuck"}[o.End]+" at "+string(rune('0'+level)), true)
		}
		c.add("no stack", list[5].Kind == api.PanicStack)
		c.add("no heap", list[5].Kind == api.PanicHeap && list[4].Kind != api.PanicHeap)
		c.add("no heap above", list[4].Kind == api.PanicHeap)
		c.add("events", len(list[0].Events) > 2)
		c.add("deep", list[0].Depth > 2)
		c.add("words", list[0].Words > 0)
		for k := 1; k <= 5; k++ {
			c.add("ahead", len(list[k].Events) > len(list[k-1].Events))
			c.add("behind", len(list[k].Events) < len(list[k-1].Events))
			if x, y := list[0], list[k]; ended(x) && ended(y) {
				x.Steps = y.Steps
				if sample.Told(x) != sample.Told(y) {
					t.Fatalf("W4: level %d: %s, the tree: %s:\n%s", k, sample.Told(y), sample.Told(x), s.Text)
				}
			}
		}
	}
	c.hold(t, 10, "running at 0", "running at 1", "running at 2", "running at 3", "running at 4", "running at 5", "exit at 0", "exit at 1", "exit at 2", "exit at 3", "exit at 4", "exit at 5",
		"panic at 0", "panic at 1", "panic at 2", "panic at 3", "panic at 4", "panic at 5", "no stack", "no heap", "events", "deep", "words", "ahead", "behind")
}
