package scan

import (
	"slices"

	"quern/api"
)

// allocation is what the intervals that were taken so far have got.
type allocation struct {
	active []api.Interval // by rising To, of one To by rising Reg
	spare  []int          // the registers that are free, rising
	places []api.Loc      // by Reg
	slots  int
}

// allocationFor has a place for each number below n, and so many registers, all of them free.
func allocationFor(n, regs int) *allocation {
	a := &allocation{places: make([]api.Loc, n)}
	for r := range regs {
		a.spare = append(a.spare, r)
	}
	return a
}

// free frees the registers of those that end ahead of a place: they stand first.
func (a *allocation) free(place int) {
	for len(a.active) > 0 && a.active[0].To < place {
		register := a.places[a.active[0].Reg].N
		a.spare = with(a.spare, register, func(other int) bool { return other > register })
		a.active = slices.Delete(a.active, 0, 1)
	}
}

// take gives the next interval a place, and may take a register from an active one for it.
func (a *allocation) take(x api.Interval) {
	a.active = with(a.active, x, func(other api.Interval) bool {
		return other.To > x.To || other.To == x.To && other.Reg > x.Reg
	})
	if len(a.spare) > 0 {
		a.places[x.Reg] = api.Loc{Kind: api.LocReg, N: a.spare[0]}
		a.spare = slices.Delete(a.spare, 0, 1)
		return
	}
	end := len(a.active) - 1
	last := a.active[end]
	a.active = a.active[:end]
	a.places[x.Reg] = a.places[last.Reg] // where x itself is the last one, the slot takes its place
	a.places[last.Reg] = api.Loc{Kind: api.LocSlot, N: a.slots}
	a.slots++
}

// with holds a list in order: it puts x ahead of the first of those that follow x.
func with[T any](list []T, x T, follows func(other T) bool) []T {
	at := slices.IndexFunc(list, follows)
	if at < 0 {
		at = len(list)
	}
	return slices.Insert(list, at, x)
}
