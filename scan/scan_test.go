package scan_test

import (
	"math"
	"strconv"
	"strings"
	"testing"

	"quern/api"
	"quern/scan"
)

func reg(n int) api.Loc { return api.Loc{Kind: api.LocReg, N: n} }

func slot(n int) api.Loc { return api.Loc{Kind: api.LocSlot, N: n} }

// number reads one; least and most are those that there are.
func number(word string) int {
	switch word {
	case "least":
		return math.MinInt
	case "most":
		return math.MaxInt
	}
	n, err := strconv.Atoi(word)
	if err != nil {
		panic(err)
	}
	return n
}

// read reads intervals as the chapter writes them: "0: 0 to 4, 1: 3 to 6".
func read(text string) (list []api.Interval) {
	for part := range strings.SplitSeq(text, ",") {
		words := strings.Fields(part)
		if len(words) == 0 {
			continue
		}
		list = append(list, api.Interval{Reg: number(strings.TrimSuffix(words[0], ":")), From: number(words[1]), To: number(words[3])})
	}
	return list
}

func tellList(list []api.Interval) string {
	var parts []string
	for _, x := range list {
		parts = append(parts, strconv.Itoa(x.Reg)+": "+strconv.Itoa(x.From)+" to "+strconv.Itoa(x.To))
	}
	return strings.Join(parts, ", ")
}

// tell tells an answer as "r0 - s1; 2".
func tell(places []api.Loc, slots int) string {
	var words []string
	for _, l := range places {
		switch {
		case l == api.Loc{}:
			words = append(words, "-")
		case l.Kind == api.LocReg:
			words = append(words, "r"+strconv.Itoa(l.N))
		case l.Kind == api.LocSlot:
			words = append(words, "s"+strconv.Itoa(l.N))
		default:
			words = append(words, "?"+strconv.Itoa(l.Kind)+"."+strconv.Itoa(l.N))
		}
	}
	return strings.Join(words, " ") + "; " + strconv.Itoa(slots)
}

// row is a list, how many registers there are, and what is answered.
type row struct {
	list string
	regs int
	want string
}

// holdRows holds what is answered against the rows, and both against the oracle.
func holdRows(t *testing.T, promise string, rows []row) {
	t.Helper()
	for _, x := range rows {
		places, slots, e := scan.Scan(read(x.list), x.regs)
		if e != api.OK || tell(places, slots) != x.want {
			t.Errorf("%s: %s with %d: %s, %v; want %s", promise, x.list, x.regs, tell(places, slots), e, x.want)
		}
		hold(t, read(x.list), x.regs)
	}
}

func TestExamples(t *testing.T) {
	holdRows(t, "examples", []row{
		{"", 3, "; 0"},
		{"2: 1 to 4", 1, "- - r0; 0"},
		{"0: 0 to 4, 1: 3 to 6, 2: 5 to 9", 2, "r0 r1 r0; 0"},
		{"0: 0 to 4, 1: 4 to 6", 1, "r0 s0; 1"},
		{"0: 0 to 9, 1: 4 to 6, 2: 8 to 9", 1, "s0 r0 r0; 1"},
		{"0: 0 to 5, 1: 0 to 5, 2: 1 to 5", 1, "r0 s0 s1; 2"},
	})
	holdErrors(t, []refused{
		{"", 0, api.ErrScanRegs},
		{"", 9, api.ErrScanRegs},
		{"0: 3 to 2", 1, api.ErrScanList},
		{"0: 1 to 2, 0: 4 to 5", 1, api.ErrScanList},
		{"1: 4 to 5, 0: 4 to 6", 1, api.ErrScanList},
		{"-1: 0 to 0", 1, api.ErrScanList},
	})
}

// TestP1802Count: no interval, one, as many as there are registers, one more, two more.
func TestP1802Count(t *testing.T) {
	holdRows(t, "P1802", []row{
		{"", 1, "; 0"},
		{"", 8, "; 0"},
		{"0: 0 to 0", 1, "r0; 0"},
		{"0: 0 to 0", 8, "r0; 0"},
		{"0: 1 to 9, 1: 1 to 9", 2, "r0 r1; 0"},
		{"0: 1 to 9, 1: 2 to 9, 2: 3 to 9", 3, "r0 r1 r2; 0"},
		{"0: 1 to 9, 1: 1 to 9, 2: 1 to 9", 2, "r0 r1 s0; 1"},
		{"0: 1 to 9, 1: 1 to 9, 2: 1 to 9, 3: 1 to 9", 2, "r0 r1 s0 s1; 2"},
		{"0: 1 to 9, 1: 1 to 9, 2: 1 to 9, 3: 1 to 9, 4: 1 to 9, 5: 1 to 9, 6: 1 to 9, 7: 1 to 9", 8, "r0 r1 r2 r3 r4 r5 r6 r7; 0"},
		{"0: 1 to 9, 1: 1 to 9, 2: 1 to 9, 3: 1 to 9, 4: 1 to 9, 5: 1 to 9, 6: 1 to 9, 7: 1 to 9, 8: 1 to 9", 8, "r0 r1 r2 r3 r4 r5 r6 r7 s0; 1"},
		{"0: 1 to 9, 1: 1 to 9, 2: 1 to 9, 3: 1 to 9, 4: 1 to 9, 5: 1 to 9, 6: 1 to 9, 7: 1 to 9, 8: 1 to 8", 8, "r0 r1 r2 r3 r4 r5 r6 s0 r7; 1"},
		{"0: 1 to 9, 1: 1 to 9, 2: 1 to 9, 3: 1 to 9, 4: 1 to 9, 5: 1 to 9, 6: 1 to 9, 7: 1 to 9", 7, "r0 r1 r2 r3 r4 r5 r6 s0; 1"},
	})
}

// TestP1802Ends: one that ends where the next one begins, one place ahead of it, one behind.
func TestP1802Ends(t *testing.T) {
	holdRows(t, "P1802", []row{
		{"0: 0 to 4, 1: 4 to 6", 2, "r0 r1; 0"},
		{"0: 0 to 4, 1: 5 to 6", 2, "r0 r0; 0"},
		{"0: 0 to 4, 1: 3 to 6", 2, "r0 r1; 0"},
		{"0: 0 to 4, 1: 4 to 6", 1, "r0 s0; 1"},
		{"0: 0 to 4, 1: 5 to 6", 1, "r0 r0; 0"},
		{"0: 0 to 4, 1: 3 to 6", 1, "r0 s0; 1"},
		{"0: 4 to 4, 1: 4 to 4", 2, "r0 r1; 0"},
		{"0: 4 to 4, 1: 5 to 5", 2, "r0 r0; 0"},
		{"0: 4 to 4, 1: 4 to 4", 1, "r0 s0; 1"},
		{"0: 4 to 4, 1: 5 to 5, 2: 6 to 6", 1, "r0 r0 r0; 0"},
		{"0: 0 to 1, 1: 2 to 3, 2: 4 to 5, 3: 5 to 6, 4: 6 to 7", 1, "r0 r0 r0 s0 r0; 1"},
		{"0: 0 to 9, 1: 0 to 3, 2: 3 to 5, 3: 4 to 8", 2, "s0 r1 r0 r1; 1"},
		// One that ended long ahead of the one that is taken, with others that did not between.
		{"0: 0 to 1, 1: 0 to 30, 2: 20 to 21", 8, "r0 r1 r0; 0"},
	})
}

// TestP1802LeastFree: of several registers that are free the least one, whichever became free first.
func TestP1802LeastFree(t *testing.T) {
	holdRows(t, "P1802", []row{
		// All at once, their ends in any order.
		{"0: 0 to 1, 1: 0 to 2, 2: 0 to 3, 3: 4 to 9, 4: 4 to 9, 5: 4 to 9", 3, "r0 r1 r2 r0 r1 r2; 0"},
		{"0: 0 to 3, 1: 0 to 2, 2: 0 to 1, 3: 4 to 9, 4: 4 to 9, 5: 4 to 9", 3, "r0 r1 r2 r0 r1 r2; 0"},
		{"0: 0 to 2, 1: 0 to 3, 2: 0 to 1, 3: 4 to 9, 4: 4 to 9, 5: 4 to 9", 3, "r0 r1 r2 r0 r1 r2; 0"},
		{"0: 0 to 2, 1: 0 to 2, 2: 0 to 2, 3: 4 to 9, 4: 4 to 9, 5: 4 to 9", 3, "r0 r1 r2 r0 r1 r2; 0"},
		// One behind the other.
		{"0: 0 to 8, 1: 0 to 6, 2: 0 to 4, 3: 0 to 2, 4: 3 to 3, 5: 5 to 5, 6: 7 to 7, 7: 9 to 9", 4, "r0 r1 r2 r3 r3 r2 r1 r0; 0"},
		{"0: 0 to 2, 1: 0 to 9, 2: 0 to 2, 3: 3 to 9, 4: 3 to 9, 5: 3 to 9", 8, "r0 r1 r2 r0 r2 r3; 0"},
		// A free one that was never given, and a lesser one that became free.
		{"0: 0 to 2, 1: 0 to 9, 2: 3 to 9", 4, "r0 r1 r0; 0"},
		{"0: 0 to 9, 1: 0 to 2, 2: 3 to 9, 3: 3 to 9", 4, "r0 r1 r1 r2; 0"},
		// By the numbers of Regs, not by where the intervals stood.
		{"5: 0 to 3, 6: 0 to 3, 0: 4 to 9, 1: 4 to 9", 2, "r0 r1 - - - r0 r1; 0"},
		{"6: 0 to 3, 5: 1 to 3, 1: 4 to 9, 0: 5 to 9", 2, "r1 r0 - - - r1 r0; 0"},
	})
}

// TestP1802LeastFreeInAnyOrder: six that end in every order; then, once some have ended, as many new ones.
func TestP1802LeastFreeInAnyOrder(t *testing.T) {
	orders(6, func(ends []int) {
		for past := range 7 {
			var list []api.Interval
			for r, end := range ends {
				list = append(list, api.Interval{Reg: r, From: 0, To: 1 + end})
			}
			for r := range past {
				list = append(list, api.Interval{Reg: 6 + r, From: 1 + past, To: 90})
			}
			hold(t, list, 6)
		}
	})
}

// orders calls do with the numbers below n in every order.
func orders(n int, do func(row []int)) {
	lists := [][]int{nil}
	for i := range n {
		var longer [][]int
		for _, list := range lists {
			for at := range i + 1 {
				row := append([]int{}, list[:at]...)
				longer = append(longer, append(append(row, i), list[at:]...))
			}
		}
		lists = longer
	}
	for _, list := range lists {
		do(list)
	}
}

// TestP1802WhoGetsTheSlot: the one with the greatest To, new or active; of several the one with the greatest Reg.
func TestP1802WhoGetsTheSlot(t *testing.T) {
	holdRows(t, "P1802", []row{
		// The new one.
		{"0: 0 to 5, 1: 1 to 6", 1, "r0 s0; 1"},
		{"0: 0 to 5, 1: 0 to 7, 2: 1 to 8", 2, "r0 r1 s0; 1"},
		{"0: 0 to 5, 1: 1 to most", 1, "r0 s0; 1"},
		// An active one, wherever it stood and whichever register it has.
		{"0: 0 to 5, 1: 1 to 4", 1, "s0 r0; 1"},
		{"0: 0 to 9, 1: 0 to 7, 2: 1 to 8", 2, "s0 r1 r0; 1"},
		{"0: 0 to 7, 1: 0 to 9, 2: 1 to 8", 2, "r0 s0 r1; 1"},
		{"0: 0 to 7, 1: 0 to 9, 2: 0 to 6, 3: 1 to 5", 3, "r0 s0 r2 r1; 1"},
		// Of several with the same To: the new one has the greatest Reg, or an active one has it.
		{"0: 0 to 5, 1: 1 to 5", 1, "r0 s0; 1"},
		{"1: 0 to 5, 0: 1 to 5", 1, "r0 s0; 1"},
		{"0: 0 to 5, 1: 0 to 5, 2: 1 to 5", 2, "r0 r1 s0; 1"},
		{"0: 0 to 5, 2: 0 to 5, 1: 1 to 5", 2, "r0 r1 s0; 1"},
		{"1: 0 to 5, 2: 0 to 5, 0: 1 to 5", 2, "r1 r0 s0; 1"},
		{"2: 0 to 5, 1: 1 to 5, 0: 2 to 5", 2, "r0 r1 s0; 1"},
		{"2: 0 to 5, 0: 1 to 5, 1: 2 to 5", 2, "r1 r0 s0; 1"},
		// Several with the same To, none of them the new one, which ends sooner.
		{"0: 0 to 5, 1: 0 to 5, 2: 1 to 4", 2, "r0 s0 r1; 1"},
		{"1: 0 to 5, 0: 1 to 5, 2: 2 to 4", 2, "r1 s0 r0; 1"},
		{"7: 0 to 5, 3: 1 to 5, 9: 2 to 4", 2, "- - - r1 - - - s0 - r0; 1"},
		// The greatest To counts ahead of the greatest Reg.
		{"0: 0 to 9, 1: 0 to 5, 2: 1 to 5", 2, "s0 r1 r0; 1"},
		{"0: 0 to 9, 5: 1 to 8", 1, "s0 - - - - r0; 1"},
	})
}

// TestP1802PassedOn: an active one is given a slot, and its register to the new one, several times.
func TestP1802PassedOn(t *testing.T) {
	holdRows(t, "P1802", []row{
		{"0: 0 to 9, 1: 1 to 8, 2: 2 to 7, 3: 3 to 6", 1, "s0 s1 s2 r0; 3"},
		{"0: 0 to 9, 1: 1 to 8, 2: 2 to 7, 3: 3 to 6, 4: 4 to 5, 5: 5 to 5", 1, "s0 s1 s2 s3 r0 s4; 5"},
		{"0: 0 to 20, 1: 0 to 19, 2: 1 to 18, 3: 1 to 17, 4: 1 to 16", 2, "s0 s1 s2 r1 r0; 3"},
		{"0: 0 to 20, 1: 0 to 5, 2: 1 to 18, 3: 1 to 4, 4: 6 to 30, 5: 7 to 8", 2, "s0 r1 s1 r0 r0 r1; 2"},
		// In between new ones that get the slot themselves.
		{"0: 0 to 9, 1: 1 to 8, 2: 2 to 11, 3: 3 to 6, 4: 4 to 7", 1, "s0 s2 s1 r0 s3; 4"},
		// The register of one that got it from another one becomes free.
		{"0: 0 to 9, 1: 1 to 3, 2: 4 to 12, 3: 5 to 6, 4: 7 to 8", 1, "s0 r0 s1 r0 r0; 2"},
		// One that was given a slot ends, and frees nothing.
		{"0: 0 to 4, 1: 1 to 3, 2: 2 to 2, 3: 5 to 9, 4: 5 to 9", 1, "s0 s1 r0 r0 s2; 3"},
		{"0: 0 to 6, 1: 0 to 5, 2: 1 to 9, 3: 7 to 9, 4: 8 to 9, 5: 9 to 9", 2, "r0 r1 s0 r0 r1 s1; 2"},
	})
}

// TestP1802NoSlotTwice: the interval of a slot has ended, and the slot is given no other one.
func TestP1802NoSlotTwice(t *testing.T) {
	holdRows(t, "P1802", []row{
		{"0: 0 to 1, 1: 1 to 2, 2: 9 to 10, 3: 10 to 11, 4: 20 to 21, 5: 21 to 22", 1, "r0 s0 r0 s1 r0 s2; 3"},
		{"0: 0 to 3, 1: 1 to 2, 2: 9 to 12, 3: 10 to 11, 4: 20 to 23, 5: 21 to 22", 1, "s0 r0 s1 r0 s2 r0; 3"},
		{"5: 0 to 3, 4: 1 to 2, 3: 9 to 12, 2: 10 to 11, 0: 20 to 20, 1: 20 to 20", 1, "r0 s2 r0 s1 r0 s0; 3"},
	})
}

// TestP1803Places: a place for each number up to the greatest Reg, none where no interval has it.
func TestP1803Places(t *testing.T) {
	holdRows(t, "P1803", []row{
		{"0: 0 to 9", 1, "r0; 0"},
		{"1: 0 to 9", 1, "- r0; 0"},
		{"4: 0 to 9", 1, "- - - - r0; 0"},
		{"4: 0 to 3, 1: 5 to 6", 1, "- r0 - - r0; 0"},
		{"4: 0 to 5, 1: 5 to 6", 1, "- s0 - - r0; 1"},
		{"1: 0 to 5, 7: 0 to 5, 4: 5 to 6", 2, "- r0 - - s0 - - r1; 1"},
		{"3: 0 to 5, 0: 1 to 4", 1, "r0 - - s0; 1"},
		{"2: 0 to 9, 5: 0 to 9, 8: 0 to 9, 0: 1 to 9, 9: 2 to 9, 3: 3 to 3", 8, "r3 - r0 r5 - r1 - - r2 r4; 0"},
	})
}

// TestP1802AnyPlaces: From and To may be any numbers.
func TestP1802AnyPlaces(t *testing.T) {
	holdRows(t, "P1802", []row{
		{"0: -9 to -5, 1: -5 to -3, 2: -4 to 0, 3: -2 to 2", 2, "r0 r1 r0 r1; 0"},
		{"0: -9 to -5, 1: -5 to -3", 1, "r0 s0; 1"},
		{"0: -9 to -5, 1: -4 to -3", 1, "r0 r0; 0"},
		{"0: least to most", 1, "r0; 0"},
		{"0: least to least", 1, "r0; 0"},
		{"0: most to most", 1, "r0; 0"},
		{"0: least to least, 1: most to most", 1, "r0 r0; 0"},
		{"0: least to most, 1: least to most", 1, "r0 s0; 1"},
		{"0: least to most, 1: most to most", 1, "r0 s0; 1"},
		{"0: least to most, 1: 0 to 0", 1, "s0 r0; 1"},
		{"0: least to -1, 1: 0 to most", 1, "r0 r0; 0"},
		{"0: least to 0, 1: 0 to most", 1, "r0 s0; 1"},
		{"0: least to -9223372036854775807, 1: -9223372036854775807 to most", 1, "r0 s0; 1"},
		{"0: least to least, 1: -9223372036854775807 to most", 1, "r0 r0; 0"},
		{"0: least to 9223372036854775806, 1: most to most", 1, "r0 r0; 0"},
		{"1: least to most, 0: -1 to most, 2: 0 to 9223372036854775806, 3: most to most", 2, "r1 s0 r0 r0; 1"},
	})
}
