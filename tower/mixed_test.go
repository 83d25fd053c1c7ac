package tower_test

import (
	"strconv"
	"strings"
	"testing"

	"quern/api"
	"quern/sample"
	"quern/tower"
)

// turned is a text that counts, tells some of that, and ends or does not; texts of other dice are other ones, but not by much.
func turned(d *sample.Dice) string {
	often := func(part string) string { return strings.Repeat(part, d.OneOf(0, 0, 0, 1, 2, 5)) }
	turns, told := strconv.Itoa(d.OneOf(0, 1, 2, 2, 3, 8)), d.OneOf(0, 0, 0, 1)
	behind := []string{"", "", "", "for {} ", "panic(1); ", "panic(2); ", "print(1 / 0); ", "print(i); ", "f(3); ", "var a []int = make([]int, 2); ", "var b []int = make([]int, 1 << 62 - 1); ", "print(len(make([]int, 1 << 62))); "}
	return "func main() { var i int; var x int; " + often("x = x + x; ") + "for i < " + turns + " { " + often("{} x = x + i; ") + "i = i + 1; " +
		[]string{"print(i); ", "if i > 1 { print(x == 0); } "}[told] + "} " + behind[d.Below(len(behind))] + "} func f(n int) { if n > 0 { f(n - 1); } } "
}

// drawnMix is a tower whose levels are mostly of one text, some of another one.
func drawnMix(t *testing.T, d *sample.Dice) tower.Mixed {
	text := turned(d)
	m := all(t, padded(text))
	if d.Below(8) == 0 {
		return m
	}
	for range 1 + d.Below(2) {
		other := all(t, padded(turned(d)))
		switch d.Below(6) {
		case 0:
			m.Tree, m.Program.Nodes = other.Tree, other.Program.Nodes
		case 1:
			m.Built = other.Built
		case 2:
			m.Clean = other.Clean
		case 3:
			m.LIR = other.LIR
		case 4:
			m.ALIR = other.ALIR
		case 5:
			m.Program.Code, m.Program.Reports = other.Program.Code, other.Program.Reports
		}
	}
	return m
}

// TestP2504Drawn draws towers that hold and towers that fail, at each level and by each of the two that are asked of it.
func TestP2504Drawn(t *testing.T) {
	t.Parallel()
	d, c := sample.Dice(2504), counts{}
	for range 1800 {
		m := drawnMix(t, &d)
		if !sound(m) {
			c.add("not sound", true)
			continue
		}
		s := api.Script{Limits: api.Limits{Stack: d.OneOf(0, 2, 9, 1000), Heap: d.OneOf(0, 3, 1000)}, Fuel: d.OneOf(0, 1, d.Below(10), d.Below(40), d.Below(80))}
		want := failing(m, s)
		if all, is := m.Holds(s); is != want || all != (want == 0) {
			t.Fatalf("P2504: %v, %d, want %d: fuel %d, %+v: %v\n%s", all, is, want, s.Fuel, s.Limits, table(m), told(m.Run(s)))
		}
		c.add("level "+strconv.Itoa(want), true)
		if want > 0 {
			_, first := only(m, s, want)
			was, second := allOf(m, s, want)
			c.add("by 1. alone at "+strconv.Itoa(want), !first && second)
			c.add("by 2. alone at "+strconv.Itoa(want), first && !second)
			c.add("by 1., and 2. does not ask", !first && !was)
		}
	}
	all := []string{"level 0", "by 1., and 2. does not ask"}
	for k := range 5 {
		for _, what := range []string{"level ", "by 1. alone at ", "by 2. alone at "} {
			all = append(all, what+strconv.Itoa(k+1))
		}
	}
	c.hold(t, 10, all...)
}
