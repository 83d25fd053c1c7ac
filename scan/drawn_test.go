package scan_test

import (
	"cmp"
	"slices"
	"testing"

	"quern/api"
	"quern/dce"
	"quern/live"
	"quern/order"
	"quern/sample"
	"quern/unssa"
)

// every calls do with every list of up to n of the choices.
func every(n int, choices []api.Interval, do func(l []api.Interval)) {
	var grow func(l []api.Interval)
	grow = func(l []api.Interval) {
		do(l)
		if len(l) == n {
			return
		}
		for _, x := range choices {
			grow(append(slices.Clip(l), x))
		}
	}
	grow(nil)
}

// TestAllShort: every list of up to three intervals of three Regs over four places, those that are refused as well.
func TestAllShort(t *testing.T) {
	var choices []api.Interval
	for r := -1; r < 3; r++ {
		for from := range 4 {
			for to := range 4 {
				choices = append(choices, api.Interval{Reg: r, From: from, To: to})
			}
		}
	}
	every(3, choices, func(l []api.Interval) {
		hold(t, l, 1)
		hold(t, l, 2)
	})
}

// TestAllRising: every list of up to five intervals without a fault over four places, with Regs in every order.
func TestAllRising(t *testing.T) {
	var spans []api.Interval
	for from := range 4 {
		for to := from; to < 4; to++ {
			spans = append(spans, api.Interval{From: from, To: to})
		}
	}
	for n := 4; n <= 5; n++ {
		orders(n, func(row []int) {
			var grow func(l []api.Interval)
			grow = func(l []api.Interval) {
				if errorOf(l, 1) != api.OK {
					return
				}
				if len(l) == n {
					hold(t, l, 1)
					hold(t, l, 2)
					hold(t, l, 3)
					return
				}
				for _, x := range spans {
					x.Reg = row[len(l)]
					grow(append(slices.Clip(l), x))
				}
			}
			grow(nil)
		})
	}
}

// put puts a list in its order.
func put(l []api.Interval) []api.Interval {
	slices.SortFunc(l, func(a, b api.Interval) int { return cmp.Or(cmp.Compare(a.From, b.From), cmp.Compare(a.Reg, b.Reg)) })
	return l
}

// mixed are the numbers below n in a drawn order.
func mixed(d *sample.Dice, n int) []int {
	list := make([]int, n)
	for i := range list {
		j := d.Below(i + 1)
		list[i], list[j] = list[j], i
	}
	return list
}

// draw draws n intervals without a fault, that begin at one of so many places and reach over up to so many; some numbers are no Reg.
func draw(d *sample.Dice, n, places, long int) (l []api.Interval) {
	least := d.Below(places) - places/2
	for _, r := range mixed(d, n+d.Below(n+1))[:n] {
		from := least + d.Below(places)
		l = append(l, api.Interval{Reg: r, From: from, To: from + d.Below(long)})
	}
	return put(l)
}

func TestDrawn(t *testing.T) {
	d := sample.Dice(1818)
	slotted, free := 0, 0
	for range 20_000 {
		n := 1 + d.Below(24)
		l := draw(&d, n, 1+d.Below(3*n), 1+d.Below(2*n))
		for _, regs := range []int{1 + d.Below(3), 1 + d.Below(api.Allocated)} {
			places, slots, _ := holdWords(t, l, regs)
			holdApart(t, l, regs, places, slots)
			if slots > 0 {
				slotted++
			} else {
				free++
			}
		}
	}
	if slotted < 5000 || free < 5000 {
		t.Errorf("drawn: %d with slots, %d without", slotted, free)
	}
}

// TestDrawnWrong turns one thing of a list.
func TestDrawnWrong(t *testing.T) {
	d := sample.Dice(1801)
	wrong := 0
	for range 30_000 {
		l := draw(&d, 2+d.Below(12), 1+d.Below(20), 1+d.Below(9))
		a, b := d.Below(len(l)), d.Below(len(l))
		switch d.Below(5) {
		case 0:
			l[a], l[b] = l[b], l[a]
		case 1:
			l[a].Reg = d.OneOf(-1, api.MaxRegs, l[b].Reg, l[b].Reg+1)
		case 2:
			l[a].From = l[b].From + d.Below(3) - 1
		case 3:
			l[a].To = l[a].From + d.Below(3) - 1
		case 4:
			l[a] = api.Interval{Reg: l[a].Reg, From: d.Number(), To: d.Number()}
		}
		regs := d.Below(10)
		hold(t, l, regs)
		if errorOf(l, regs) != api.OK {
			wrong++
		}
	}
	if wrong < 10_000 {
		t.Errorf("drawn: %d lists that are refused", wrong)
	}
}

// TestDrawnMany: lists of some hundreds, a few of which meet at a time, or nearly all.
func TestDrawnMany(t *testing.T) {
	d := sample.Dice(1802)
	for turn := range 60 {
		n := 200 + d.Below(200)
		l := draw(&d, n, 1+d.Below(4*n), 1+d.Below(1<<(turn%12)))
		for regs := 1; regs <= api.Allocated; regs++ {
			hold(t, l, regs)
		}
	}
}

// lower are the intervals of each function of a program.
func lower(t *testing.T, l api.LIR, do func(list []api.Interval)) {
	t.Helper()
	for _, f := range l.Funcs {
		var to [][]int
		for _, b := range f.Blocks {
			to = append(to, b.Term.To)
		}
		list, e := live.Intervals(f, order.Line(to))
		if e != api.OK {
			t.Fatalf("Intervals: %v", e)
		}
		do(list)
	}
}

// TestFunctions takes the intervals of drawn LIR, and of texts, as built and as cleaned.
func TestFunctions(t *testing.T) {
	d := sample.Dice(18)
	functions, slotted := 0, 0
	for turn := range 600 {
		l := sample.DrawLIR(&d)
		if turn%3 > 0 {
			s := sample.Built(sample.DrawText(&d, 4+turn%30, turn%4 == 0))
			if turn%3 > 1 {
				s, _ = dce.Clean(s)
			}
			l, _ = unssa.Lower(s)
		}
		lower(t, l, func(list []api.Interval) {
			functions++
			for regs := 1; regs <= api.Allocated; regs++ {
				places, slots, good := holdWords(t, list, regs)
				if !good {
					t.Fatalf("P1801: the intervals of a function are refused: %s", tellList(list))
				}
				holdApart(t, list, regs, places, slots)
				slotted += min(slots, 1)
			}
		})
	}
	if functions < 1000 || slotted < 1000 {
		t.Errorf("%d functions, %d times slots", functions, slotted)
	}
}
