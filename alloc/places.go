package alloc

import (
	"slices"

	"quern/api"
	"quern/live"
	"quern/scan"
)

// places has the place of each register that a function names. Of -1, which says that there is no register, it has the zero Loc, which says that there is no place.
type places map[int]api.Loc

// placesOf tells the places of a function whose blocks stand in that line, and how many slots there are.
func placesOf(f api.LFunc, line []int) (places, int) {
	intervals, _ := live.Intervals(f, line)
	named := ranked(intervals)
	list, slots, _ := scan.Scan(intervals, api.Allocated)
	p := make(places, len(named))
	for rank, register := range named {
		p[register] = list[rank]
	}
	return p, slots
}

// ranked lets each interval's Reg be its rank among all of them, and tells these, rising. A scan asks of two registers no more than which is the greater one, so it gives both the same places; but what it takes and answers hangs on the greatest number, and a function that names few registers may name a great one.
func ranked(intervals []api.Interval) []int {
	named := make([]int, len(intervals))
	for i, x := range intervals {
		named[i] = x.Reg
	}
	slices.Sort(named)
	for i, x := range intervals {
		intervals[i].Reg, _ = slices.BinarySearch(named, x.Reg)
	}
	return named
}

func (p places) all(registers []int) []api.Loc {
	list := make([]api.Loc, len(registers))
	for i, r := range registers {
		list[i] = p[r]
	}
	return list
}
