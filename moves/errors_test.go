package moves_test

import (
	"math"
	"testing"

	"quern/api"
	"quern/moves"
)

type refused struct {
	moves []api.Move
	temp  api.Loc
	want  api.Errno
}

func holdErrors(t *testing.T, promise string, rows []refused) {
	t.Helper()
	for _, x := range rows {
		is, e := moves.Order(x.moves, x.temp)
		if e != x.want || e != api.OK && is != nil {
			t.Errorf("%s: %s, temp %s: %d, %s; want %d", promise, tell(x.moves), tellAt(x.temp), e, tell(is), x.want)
		}
	}
}

// locs are Locs of all Kinds that there are, and of others, with all sorts of N.
func locs() (all []api.Loc) {
	for _, kind := range []int{math.MinInt, -1, 0, api.LocReg, api.LocSlot, api.LocNum, 4, 1 << 32, 1<<32 + 1, math.MaxInt} {
		for _, n := range []int{math.MinInt, -1, 0, 1, math.MaxInt} {
			all = append(all, api.Loc{Kind: kind, N: n})
		}
	}
	return all
}

// isPlace: as the chapter says it.
func isPlace(l api.Loc) bool { return (l.Kind == 1 || l.Kind == 2) && l.N >= 0 }

func errorOf(bad bool) api.Errno {
	if bad {
		return api.ErrMovesPlace
	}
	return api.OK
}

func TestP1301Places(t *testing.T) {
	for _, x := range locs() {
		to := api.Move{To: x, From: reg(5)}
		from := api.Move{To: reg(5), From: x}
		other := api.Move{To: slot(6), From: reg(7)}
		badTo, badFrom := errorOf(!isPlace(x)), errorOf(!isPlace(x) && x.Kind != 3)
		holdErrors(t, "P1301", []refused{
			{[]api.Move{to}, reg(9), badTo},
			{[]api.Move{from}, reg(9), badFrom},
			{[]api.Move{{To: x, From: x}}, reg(9), badTo},
			{[]api.Move{other, to}, reg(9), badTo},
			{[]api.Move{from, other}, reg(9), badFrom},
			{nil, x, badTo},
			{[]api.Move{}, x, badTo},
			{[]api.Move{other}, x, badTo},
			{read("r5 r5"), x, badTo},
			{read("r5 r6, r6 r5"), x, badTo},
		})
	}
}

func TestP1301Temp(t *testing.T) {
	const bad = api.ErrMovesPlace
	holdErrors(t, "P1301", []refused{
		{read("r9 r9"), reg(9), bad},
		{read("s0 s0"), slot(0), bad},
		{read("r9 5"), reg(9), bad},
		{read("r0 r1, r1 r9"), reg(9), bad},
		{read("r9 r1, r1 r0"), reg(9), bad},
		{read("r0 r1, r1 r2, r2 s4"), slot(4), bad},
		{read("r0 r1, r1 r2, s4 r2"), slot(4), bad},
		// Of another Kind it is not the temporary.
		{read("s9 r0"), reg(9), api.OK},
		{read("r0 s9"), reg(9), api.OK},
		{read("r0 9"), reg(9), api.OK},
		{read("r0 0, r1 r0"), slot(0), api.OK},
	})
}

func TestP1301Twice(t *testing.T) {
	const twice, place = api.ErrMovesTwice, api.ErrMovesPlace
	none := api.Loc{}
	holdErrors(t, "P1301", []refused{
		{read("r0 r1, r0 r2"), reg(9), twice},
		{read("r0 r0, r0 r0"), reg(9), twice},
		{read("r0 r0, r0 r1"), reg(9), twice},
		{read("r0 r1, r0 r0"), reg(9), twice},
		{read("s0 1, s0 1"), reg(9), twice},
		{read("s0 1, s0 2"), reg(9), twice},
		{read("r0 r1, r1 r0, s3 r0, r3 r0, r1 s3"), reg(9), twice},
		{read("r0 r1, s0 r1"), reg(9), api.OK},
		{read("r0 r1, r2 r1, r3 r1"), reg(9), api.OK},
		// A place that is none comes first, wherever it stands.
		{append(read("r0 r1, r0 r1"), api.Move{To: none, From: reg(1)}), reg(9), place},
		{append([]api.Move{{To: reg(1), From: none}}, read("r0 r1, r0 r1")...), reg(9), place},
		{read("r0 r1, r0 r1, r2 r9"), reg(9), place},
		{read("r0 r1, r0 r9"), reg(9), place},
		{read("r9 r1, r9 r1"), reg(9), place},
		{read("7 r1, 7 r1"), reg(9), place},
		{read("r-1 r1, r-1 r1"), reg(9), place},
		{read("r0 r1, r0 s-1"), reg(9), place},
		{read("r0 r1, r0 r1"), none, place},
		{read("r0 r1, r0 r1"), num(7), place},
	})
}
