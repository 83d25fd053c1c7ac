package scan_test

import (
	"slices"
	"testing"

	"quern/api"
	"quern/scan"
)

// errorOf: as P1801 says it.
func errorOf(l []api.Interval, regs int) api.Errno {
	if regs < 1 || regs > 8 {
		return api.ErrScanRegs
	}
	met := map[int]int{}
	for i, x := range l {
		met[x.Reg]++
		if x.Reg < 0 || x.Reg >= 1<<18 || x.To < x.From || met[x.Reg] > 1 {
			return api.ErrScanList
		}
		if i > 0 && (l[i-1].From > x.From || l[i-1].From == x.From && l[i-1].Reg > x.Reg) {
			return api.ErrScanList
		}
	}
	return api.OK
}

// byTheWords does what P1802 and P1803 say, word by word. What is active stands in no order but that in which it was taken.
func byTheWords(l []api.Interval, regs int) (places []api.Loc, slots int) {
	type holder struct {
		api.Interval
		register int
	}
	got := map[int]api.Loc{}
	var active []holder
	for _, x := range l {
		active = slices.DeleteFunc(active, func(a holder) bool { return a.To < x.From })
		free := 0
		for slices.ContainsFunc(active, func(a holder) bool { return a.register == free }) {
			free++
		}
		if free < regs {
			got[x.Reg] = reg(free)
			active = append(active, holder{x, free})
			continue
		}
		most, at := x, -1
		for i, a := range active {
			if a.To > most.To || a.To == most.To && a.Reg > most.Reg {
				most, at = a.Interval, i
			}
		}
		if at >= 0 {
			got[x.Reg] = reg(active[at].register)
			active[at].Interval = x
		}
		got[most.Reg] = slot(slots)
		slots++
	}
	greatest := -1
	for r := range got {
		greatest = max(greatest, r)
	}
	for r := range greatest + 1 {
		places = append(places, got[r])
	}
	return places, slots
}

func meet(a, b api.Interval) bool { return a.From <= b.To && b.From <= a.To }

// crowded tells whether an interval has a place at which more than so many meet. Where some meet, they all meet at the greatest From of them.
func crowded(l []api.Interval, x api.Interval, regs int) bool {
	return slices.ContainsFunc(l, func(other api.Interval) bool {
		place := other.From
		if place < x.From || place > x.To {
			return false
		}
		count := 0
		for _, y := range l {
			if y.From <= place && place <= y.To {
				count++
			}
		}
		return count > regs
	})
}

// holdApart holds what is answered against P1804.
func holdApart(t testing.TB, l []api.Interval, regs int, places []api.Loc, slots int) {
	t.Helper()
	holders := make([]int, slots)
	for i, x := range l {
		at := places[x.Reg]
		for _, y := range l[:i] {
			if places[y.Reg] == at && (at.Kind == api.LocSlot || meet(x, y)) {
				t.Fatalf("P1804: %s with %d: %d and %d have one place: %s", tellList(l), regs, y.Reg, x.Reg, tell(places, slots))
			}
		}
		switch {
		case at.Kind == api.LocReg && at.N >= 0 && at.N < regs:
		case at.Kind == api.LocSlot && at.N >= 0 && at.N < slots && crowded(l, x, regs):
			holders[at.N]++
		default:
			t.Fatalf("P1804: %s with %d: %d is at %v: %s", tellList(l), regs, x.Reg, at, tell(places, slots))
		}
	}
	if slices.ContainsFunc(holders, func(n int) bool { return n != 1 }) {
		t.Fatalf("P1804: %s with %d: slots of so many each: %v", tellList(l), regs, holders)
	}
}

// hold holds all that is answered of a list, whether it has a fault or not.
func hold(t testing.TB, l []api.Interval, regs int) {
	t.Helper()
	if places, slots, good := holdWords(t, l, regs); good {
		holdApart(t, l, regs, places, slots)
	}
}

// holdWords holds the error of a list and, if it has none, its places, against the oracle.
func holdWords(t testing.TB, l []api.Interval, regs int) ([]api.Loc, int, bool) {
	t.Helper()
	places, slots, e := scan.Scan(l, regs)
	if want := errorOf(l, regs); e != want {
		t.Fatalf("P1801: %s with %d: %v, want %v", tellList(l), regs, e, want)
	}
	if e != api.OK {
		if places != nil || slots != 0 {
			t.Fatalf("P1801: %s with %d: %v, and %s", tellList(l), regs, e, tell(places, slots))
		}
		return nil, 0, false
	}
	want, wantSlots := byTheWords(l, regs)
	if !slices.Equal(places, want) || slots != wantSlots {
		if len(l) > 100 {
			t.Fatalf("P1802: %d intervals with %d: %d places with %d slots, want %d with %d", len(l), regs, len(places), slots, len(want), wantSlots)
		}
		t.Fatalf("P1802: %s with %d: %s, want %s", tellList(l), regs, tell(places, slots), tell(want, wantSlots))
	}
	return places, slots, true
}
