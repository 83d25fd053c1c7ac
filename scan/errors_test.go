package scan_test

import (
	"math"
	"slices"
	"testing"

	"quern/api"
	"quern/scan"
)

type refused struct {
	list string
	regs int
	want api.Errno
}

func holdErrors(t *testing.T, rows []refused) {
	t.Helper()
	for _, x := range rows {
		holdError(t, read(x.list), x.regs, x.want)
	}
}

// holdError holds the error of a list; with one there is nothing else.
func holdError(t *testing.T, list []api.Interval, regs int, want api.Errno) {
	t.Helper()
	places, slots, e := scan.Scan(list, regs)
	if e != want || e != api.OK && (places != nil || slots != 0) {
		t.Errorf("P1801: %s with %d: %v, %s; want %v", tellList(list), regs, e, tell(places, slots), want)
	}
}

// wrongs are lists of each fault that there is.
func wrongs() []string {
	return []string{
		"-1: 0 to 0", "262144: 0 to 0", "0: 3 to 2", "0: 1 to 2, 1: 0 to 3", "1: 4 to 5, 0: 4 to 6",
		"0: 1 to 2, 0: 1 to 2", "0: 1 to 2, 0: 4 to 5", "0: 1 to 2, 1: 1 to 2, 2: 1 to 2, 0: 4 to 5",
	}
}

func TestP1801Regs(t *testing.T) {
	for _, regs := range []int{math.MinInt, -api.Allocated, -2, -1, 0, 9, 10, 16, 1 << 32, 1<<32 + 1, math.MaxInt} {
		for _, list := range append(wrongs(), "", "0: 0 to 0", "0: 0 to 5, 1: 1 to 4") {
			holdErrors(t, []refused{{list, regs, api.ErrScanRegs}})
		}
	}
	for regs := 1; regs <= api.Allocated; regs++ {
		for _, list := range wrongs() {
			holdErrors(t, []refused{{list, regs, api.ErrScanList}})
		}
		for _, list := range []string{"", "0: 0 to 0", "0: 0 to 5, 1: 1 to 4"} {
			holdErrors(t, []refused{{list, regs, api.OK}})
			hold(t, read(list), regs)
		}
	}
}

func TestP1801Reg(t *testing.T) {
	for _, r := range []int{math.MinInt, -1 << 32, -2, -1, api.MaxRegs, api.MaxRegs + 1, 1 << 32, 1<<32 + 3, math.MaxInt} {
		x := api.Interval{Reg: r, From: 5, To: 6}
		ahead, behind := read("0: 4 to 9, 1: 4 to 9"), read("0: 6 to 9, 1: 6 to 9")
		for _, list := range [][]api.Interval{{x}, append(slices.Clone(ahead), x), append([]api.Interval{x}, behind...), slices.Concat(ahead[:1], []api.Interval{x}, behind[1:])} {
			holdError(t, list, 1, api.ErrScanList)
			holdError(t, list, 8, api.ErrScanList)
		}
	}
	for _, r := range []int{0, 1, api.MaxRegs - 2, api.MaxRegs - 1} {
		places, slots, e := scan.Scan([]api.Interval{{Reg: r, From: 5, To: 6}}, 3)
		if e != api.OK || slots != 0 || len(places) != r+1 || places[r] != reg(0) {
			t.Fatalf("P1801: Reg %d: %v, %d slots, %d places", r, e, slots, len(places))
		}
		if other := slices.IndexFunc(places[:r], func(l api.Loc) bool { return l != api.Loc{} }); other >= 0 {
			t.Errorf("P1803: Reg %d alone: %d has the place %v", r, other, places[other])
		}
	}
}

func TestP1801To(t *testing.T) {
	const bad = api.ErrScanList
	holdErrors(t, []refused{
		{"0: 3 to 3", 1, api.OK},
		{"0: 3 to 4", 1, api.OK},
		{"0: 3 to 2", 1, bad},
		{"0: 0 to -1", 1, bad},
		{"0: -3 to -4", 1, bad},
		{"0: -3 to -3", 1, api.OK},
		{"0: most to least", 1, bad},
		{"0: 0 to least", 1, bad},
		{"0: most to 0", 1, bad},
		{"0: most to 9223372036854775806", 1, bad},
		{"0: -9223372036854775807 to least", 1, bad},
		{"0: 3 to 5, 1: 4 to 3, 2: 5 to 6", 8, bad},
		{"0: 3 to 5, 1: 4 to 4, 2: 5 to 6", 8, api.OK},
		{"0: 3 to 5, 1: 4 to 4, 2: 5 to 4", 8, bad},
		{"0: 3 to 2, 1: 4 to 4, 2: 5 to 5", 8, bad},
	})
}

func TestP1801Order(t *testing.T) {
	const bad = api.ErrScanList
	holdErrors(t, []refused{
		// By From.
		{"0: 1 to 9, 1: 2 to 9", 2, api.OK},
		{"1: 1 to 9, 0: 2 to 9", 2, api.OK},
		{"0: 2 to 9, 1: 1 to 9", 2, bad},
		{"1: 2 to 9, 0: 1 to 9", 2, bad},
		{"0: 0 to 9, 1: -1 to 9", 2, bad},
		{"0: most to most, 1: least to most", 2, bad},
		{"0: least to most, 1: most to most", 2, api.OK},
		{"0: 0 to 0, 1: least to least", 2, bad},
		{"0: 1 to 9, 1: 2 to 9, 2: 3 to 9, 3: 2 to 9", 2, bad},
		{"0: 1 to 9, 1: 3 to 9, 2: 2 to 9, 3: 4 to 9", 2, bad},
		{"0: 2 to 9, 1: 1 to 9, 2: 3 to 9, 3: 4 to 9", 2, bad},
		{"0: 1 to 9, 1: 1 to 9, 2: 0 to 9", 2, bad},
		// Of one From by Reg.
		{"0: 4 to 9, 1: 4 to 9, 2: 4 to 9", 2, api.OK},
		{"0: 4 to 9, 5: 4 to 4, 8: 4 to 7", 2, api.OK},
		{"0: 4 to 9, 2: 4 to 9, 1: 4 to 9", 2, bad},
		{"1: 4 to 9, 0: 4 to 9, 2: 4 to 9", 2, bad},
		{"2: 3 to 9, 0: 4 to 9, 1: 4 to 9, 3: 4 to 9", 2, api.OK},
		{"2: 3 to 9, 1: 4 to 9, 0: 4 to 9, 3: 5 to 9", 2, bad},
		// Not by To.
		{"0: 4 to 9, 1: 4 to 5, 2: 4 to 7", 2, api.OK},
		{"1: 4 to 5, 0: 4 to 9", 2, bad},
	})
}

func TestP1801Twice(t *testing.T) {
	const bad = api.ErrScanList
	holdErrors(t, []refused{
		{"0: 1 to 2, 0: 1 to 2", 8, bad},
		{"0: 1 to 2, 0: 1 to 3", 8, bad},
		{"0: 1 to 2, 0: 2 to 3", 8, bad},
		{"0: 1 to 2, 0: 3 to 4", 8, bad},
		{"3: 1 to 2, 3: 9 to 9", 8, bad},
		{"262143: 1 to 2, 262143: 9 to 9", 8, bad},
		{"0: 1 to 2, 1: 1 to 2, 0: 2 to 2", 8, bad},
		{"0: 1 to 2, 1: 3 to 4, 2: 5 to 6, 3: 7 to 8, 0: 9 to 9", 8, bad},
		{"9: 1 to 2, 1: 3 to 4, 2: 5 to 6, 3: 7 to 8, 1: 9 to 9", 8, bad},
		{"9: 1 to 2, 1: 3 to 4, 2: 5 to 6, 3: 7 to 8, 4: 9 to 9", 8, api.OK},
	})
	// Far from one another.
	var list []api.Interval
	for i := range 100_000 {
		list = append(list, api.Interval{Reg: 100_000 - i, From: i, To: i + 3})
	}
	holdError(t, list, 4, api.OK)
	for _, at := range []int{0, 1, 50_000, 99_998} {
		list[99_999].Reg = list[at].Reg
		holdError(t, list, 4, api.ErrScanList)
	}
	list[99_999].Reg = 0
	holdError(t, list, 4, api.OK)
}
